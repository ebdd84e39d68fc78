/-
  Plain facts on lists of bytes, numbers and quotes: nothing of the program.
-/
namespace Go.Proofs.YtlkeefjbjhmccaaDoor

/-- How many bytes at a list's front are of a class. -/
def spanN (p : Int → Bool) (l : List UInt8) : Nat := (l.takeWhile fun c => p (c.toNat : Int)).length

theorem spanN_le (p : Int → Bool) (l : List UInt8) : spanN p l ≤ l.length := by
  unfold spanN; exact (List.takeWhile_sublist _).length_le

/-- All bytes ahead of place k are of the class. -/
def AllTo (p : Int → Bool) (l : List UInt8) (k : Nat) : Prop := ∀ j (h : j < l.length), j < k → p (l[j].toNat : Int) = true

theorem AllTo.succ {p : Int → Bool} {l : List UInt8} {k : Nat} (h : AllTo p l k) (hk : k < l.length) (e : p (l[k].toNat : Int) = true) : AllTo p l (k + 1) := by
  intro j hj hjk
  by_cases hjk' : j < k
  · exact h j hj hjk'
  · have : j = k := by omega
    subst this; exact e

theorem spanN_cons (p : Int → Bool) (c : UInt8) (l : List UInt8) : spanN p (c :: l) = if p (c.toNat : Int) = true then spanN p l + 1 else 0 := by
  unfold spanN
  rw [List.takeWhile_cons]
  split <;> simp

theorem spanN_stop (p : Int → Bool) : ∀ (l : List UInt8) (k : Nat) (hk : k < l.length), AllTo p l k → p (l[k].toNat : Int) = false → spanN p l = k
  | c :: l, 0, _, _, e => by
    rw [spanN_cons]
    simp at e
    simp [e]
  | c :: l, k + 1, hk, h, e => by
    rw [spanN_cons]
    have h0 : p (c.toNat : Int) = true := h 0 (by simp) (by omega)
    rw [if_pos h0]
    have hk' : k < l.length := by simpa using hk
    have := spanN_stop p l k hk' (fun j hj hjk => by have := h (j + 1) (by simp; omega) (by omega); simpa using this) (by simpa using e)
    omega

theorem spanN_all (p : Int → Bool) : ∀ (l : List UInt8), AllTo p l l.length → spanN p l = l.length
  | [], _ => rfl
  | c :: l, h => by
    rw [spanN_cons]
    have h0 : p (c.toNat : Int) = true := h 0 (by simp) (by simp)
    rw [if_pos h0]
    have := spanN_all p l (fun j hj _ => by have := h (j + 1) (by simp; omega) (by simp; omega); simpa using this)
    simp; omega

end Go.Proofs.YtlkeefjbjhmccaaDoor
