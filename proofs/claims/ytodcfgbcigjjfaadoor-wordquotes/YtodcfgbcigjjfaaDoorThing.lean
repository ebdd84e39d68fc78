/-
  Things of words, plainly: where one ends, or what is wrong; and the reader's small methods.
-/
import Derived.Test.YtodcfgbcigjjfaaDoorBase
import Derived.Test.YtodcfgbcigjjfaaDoorShelf
namespace Go.Proofs.YtodcfgbcigjjfaaDoor
open Go.RowKit

/-- Whether all is quoted in a place. -/
def quot (wh : Nat) : Bool := wh == 1 || wh == 3
/-- What is left behind a thing; or what is wrong, and the text from the byte that is to blame on. -/
inductive Rs where
  | ok (r : List UInt8)
  | err (e : Int) (r : List UInt8)
mutual
def thg : Nat → List UInt8 → Nat → Nat → Rs
  | 0, l, _, _ => .ok l
  | _ + 1, [], _, _ => .ok []
  | f + 1, c :: r, wh, d =>
    if c = 92 then .ok (r.drop 1)
    else if c = 34 then (if wh = 1 then .ok r else cls f r (c :: r) 34 1 d)
    else if c = 39 then (if quot wh then .ok r else match r.dropWhile (fun x => x != 39) with
      | [] => .err 11 (c :: r)
      | _ :: r' => .ok r')
    else if c = 36 then (if r.head? = some 123 then cls f (r.drop 1) (c :: r) 125 (if quot wh then 3 else 2) d
      else if r.head? = some 40 then cls f (r.drop 1) r 41 4 d
      else .ok r)
    else if c = 40 then (if wh = 4 then cls f r (c :: r) 41 4 d else .ok r)
    else if c = 96 then .err 10 (c :: r)
    else .ok r
def cls : Nat → List UInt8 → List UInt8 → UInt8 → Nat → Nat → Rs
  | 0, l, _, _, _, _ => .ok l
  | f + 1, l, fr, e, wh, d => if 40 ≤ d then .err 3 fr else lop f l fr e wh (d + 1)
def lop : Nat → List UInt8 → List UInt8 → UInt8 → Nat → Nat → Rs
  | 0, l, _, _, _, _ => .ok l
  | _ + 1, [], fr, _, _, _ => .err 11 fr
  | f + 1, c :: r, fr, e, wh, d => if c = e then .ok r else match thg f (c :: r) wh d with
    | .err x b => .err x b
    | .ok l' => lop f l' fr e wh d
end
theorem thg_succ (f : Nat) (c : UInt8) (r : List UInt8) (wh d : Nat) : thg (f + 1) (c :: r) wh d =
    if c = 92 then .ok (r.drop 1)
    else if c = 34 then (if wh = 1 then .ok r else cls f r (c :: r) 34 1 d)
    else if c = 39 then (if quot wh then .ok r else match r.dropWhile (fun x => x != 39) with
      | [] => .err 11 (c :: r)
      | _ :: r' => .ok r')
    else if c = 36 then (if r.head? = some 123 then cls f (r.drop 1) (c :: r) 125 (if quot wh then 3 else 2) d
      else if r.head? = some 40 then cls f (r.drop 1) r 41 4 d
      else .ok r)
    else if c = 40 then (if wh = 4 then cls f r (c :: r) 41 4 d else .ok r)
    else if c = 96 then .err 10 (c :: r)
    else .ok r := by rw [thg]
theorem cls_succ (f : Nat) (l fr : List UInt8) (e : UInt8) (wh d : Nat) : cls (f + 1) l fr e wh d = if 40 ≤ d then .err 3 fr else lop f l fr e wh (d + 1) := by rw [cls]
theorem lop_nil (f : Nat) (fr : List UInt8) (e : UInt8) (wh d : Nat) : lop (f + 1) [] fr e wh d = .err 11 fr := by rw [lop]
theorem lop_succ (f : Nat) (c : UInt8) (r fr : List UInt8) (e : UInt8) (wh d : Nat) : lop (f + 1) (c :: r) fr e wh d = if c = e then .ok r else match thg f (c :: r) wh d with
    | .err x b => .err x b
    | .ok l' => lop f l' fr e wh d := by rw [lop]
theorem head_cons {r : List UInt8} {c : UInt8} (h : r.head? = some c) : r = c :: r.drop 1 := by
  cases r with
  | nil => cases h
  | cons x r => simp at h; subst h; rfl
theorem dropWhile_len (p : UInt8 → Bool) (l : List UInt8) : (l.dropWhile p).length ≤ l.length := (List.dropWhile_sublist p).length_le

/-- What is left has n bytes at most, what is to blame begins within the last m. -/
def Fit (n m : Nat) : Rs → Prop
  | .ok r => r.length ≤ n
  | .err _ b => b.length ≤ m
theorem fit_ite {n m : Nat} {c : Prop} [Decidable c] {x y : Rs} (hx : Fit n m x) (hy : Fit n m y) : Fit n m (if c then x else y) := by
  split
  · exact hx
  · exact hy
theorem Fit.mono {n m n' m' : Nat} {x : Rs} (h : Fit n m x) (hn : n ≤ n') (hm : m ≤ m') : Fit n' m' x := by
  cases x with
  | ok r => exact Nat.le_trans h hn
  | err e b => exact Nat.le_trans h hm
theorem thg_fit {f : Nat} (hC : ∀ l fr e wh d, l.length ≤ fr.length → Fit l.length fr.length (cls f l fr e wh d)) (c : UInt8) (r : List UInt8) (wh d : Nat) : Fit r.length (r.length + 1) (thg (f + 1) (c :: r) wh d) := by
  rw [thg_succ]
  have hok : Fit r.length (r.length + 1) (.ok r) := Nat.le_refl _
  refine fit_ite (show (r.drop 1).length ≤ r.length by simp) (fit_ite (fit_ite hok ?_) (fit_ite (fit_ite hok ?_) (fit_ite (fit_ite ?_ (fit_ite ?_ hok)) (fit_ite (fit_ite ?_ hok) (fit_ite ?_ hok)))))
  · exact (hC r (c :: r) 34 1 d (by simp)).mono (Nat.le_refl _) (Nat.le_refl _)
  · have := dropWhile_len (fun x => x != 39) r
    split
    · exact Nat.le_refl _
    · next x r' hx =>
      rw [hx] at this
      simp at this
      show r'.length ≤ r.length
      omega
  · exact (hC (r.drop 1) (c :: r) 125 _ d (by simp; omega)).mono (by simp) (Nat.le_refl _)
  · exact (hC (r.drop 1) r 41 4 d (by simp)).mono (by simp) (by omega)
  · exact (hC r (c :: r) 41 4 d (by simp)).mono (Nat.le_refl _) (Nat.le_refl _)
  · exact Nat.le_refl _
theorem c_fit : ∀ f : Nat, (∀ l fr e wh d, l.length ≤ fr.length → Fit l.length fr.length (cls f l fr e wh d)) ∧ (∀ l fr e wh d, l.length ≤ fr.length → Fit l.length fr.length (lop f l fr e wh d)) ∧ (∀ c r wh d, Fit (r.length + 1) (r.length + 1) (thg f (c :: r) wh d))
  | 0 => ⟨fun l fr e wh d _ => by rw [cls]; exact Nat.le_refl _, fun l fr e wh d _ => by rw [lop]; exact Nat.le_refl _, fun c r wh d => by rw [thg]; exact Nat.le_refl _⟩
  | f + 1 => by
    obtain ⟨iC, iL, iT⟩ := c_fit f
    refine ⟨fun l fr e wh d hl => ?_, fun l fr e wh d hl => ?_, fun c r wh d => (thg_fit iC c r wh d).mono (by omega) (Nat.le_refl _)⟩
    · rw [cls_succ]
      exact fit_ite (Nat.le_refl _) (iL l fr e wh (d + 1) hl)
    · cases l with
      | nil => rw [lop_nil]; exact Nat.le_refl _
      | cons c r =>
        rw [lop_succ]
        refine fit_ite (show r.length ≤ r.length + 1 by omega) ?_
        have h1 := iT c r wh d
        simp at hl
        cases hq : thg f (c :: r) wh d with
        | ok r' =>
          rw [hq] at h1
          have h1' : r'.length ≤ r.length + 1 := h1
          exact (iL r' fr e wh d (by omega)).mono h1' (Nat.le_refl _)
        | err x b =>
          rw [hq] at h1
          have h1' : b.length ≤ r.length + 1 := h1
          show b.length ≤ fr.length
          omega
/-- A thing takes a byte at least. -/
theorem thg_len (f : Nat) (c : UInt8) (r : List UInt8) (wh d : Nat) : Fit r.length (r.length + 1) (thg (f + 1) (c :: r) wh d) := thg_fit (c_fit f).1 c r wh d

end Go.Proofs.YtodcfgbcigjjfaaDoor
