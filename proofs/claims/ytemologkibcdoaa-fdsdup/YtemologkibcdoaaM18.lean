/-
  Directories (stage 13): a walk in pure form, by levels; its bounds.
  Directories (stage 13): through, step.
-/
import Derived.Test.YtemologkibcdoaaM17

/- Directories (stage 13): a walk in pure form, by levels; its bounds. -/
namespace Go.Proofs.Ytemologkibcdoaa
open Go.RowKit Go.Maps

/-- What a link's text leads to, at a level. -/
def goF (s : NS) : Nat → Int → List UInt8 → Nat → Int × Int × Nat
  | 0 => fun _ _ r => (0, 27, r)
  | n + 1 => fun a t r => goesN s n a t true r
theorem goes_is (s : NS) (n : Nat) (a : Int) (p : List UInt8) (f : Bool) (r : Nat) : goesN s n a p f r = if p = [] then (0, 23, r) else if 256 < p.length then (0, 3, r) else if p.head? = some 47 then loopN (goF s n) s f (partsOf p.tail) 1 r else loopN (goF s n) s f (partsOf p) a r := by
  cases n <;> rfl
/-- From the root on: the first part of a path that begins with a stroke leads nowhere else. -/
theorem loop_root {s : NS} (H : NInv s) (go : Int → List UInt8 → Nat → Int × Int × Nat) (f : Bool) {p : List UInt8} (hp : p.head? = some 47) (r : Nat) : loopN go s f (partsOf p) 1 r = loopN go s f (partsOf p.tail) 1 r := by
  cases p with
  | nil => cases hp
  | cons c l =>
    have hc : c = 47 := by simpa using hp
    subst hc
    have e : partsOf (47 :: l) = [] :: partsOf l := by
      show (if (47 : UInt8) = 47 then [] :: partsOf l else _) = _
      rw [if_pos rfl]
    rw [e]
    show loopN go s f ([] :: partsOf l) 1 r = loopN go s f (partsOf l) 1 r
    cases hl : partsOf l with
    | nil => exact absurd hl (parts_ne l)
    | cons q qs =>
      have h1 : stepN go s 1 [] true r = (1, 0, r) := by
        unfold stepN
        have : isD s 1 = true := decide_eq_true H.root
        rw [this]
        simp
      show (if (stepN go s 1 [] true r).2.1 ≠ 0 then stepN go s 1 [] true r else loopN go s f (q :: qs) (stepN go s 1 [] true r).1 (stepN go s 1 [] true r).2.2) = _
      rw [h1]
      simp
theorem goes_loop {s : NS} (H : NInv s) {n : Nat} {a : Int} {p : List UInt8} {f : Bool} {r : Nat} (h0 : p ≠ []) (h1 : ¬ 256 < p.length) : goesN s n a p f r = loopN (goF s n) s f (partsOf p) (if p.head? = some 47 then 1 else a) r := by
  rw [goes_is, if_neg h0, if_neg h1]
  by_cases h : p.head? = some 47
  · rw [if_pos h, if_pos h, loop_root H _ _ h]
  · rw [if_neg h, if_neg h]
def Bnd (go : Int → List UInt8 → Nat → Int × Int × Nat) : Prop := ∀ a t r, 0 ≤ a → a ≤ 1024 → (0 ≤ (go a t r).1 ∧ (go a t r).1 ≤ 1024) ∧ (go a t r).2.2 ≤ r
theorem step_bnd {s : NS} {n : Nat} (K : NOk s n) {go : Int → List UInt8 → Nat → Int × Int × Nat} (hg : Bnd go) {a : Int} (p : List UInt8) (f : Bool) (r : Nat) (h0 : 0 ≤ a) (h1 : a ≤ 1024) : (0 ≤ (stepN go s a p f r).1 ∧ (stepN go s a p f r).1 ≤ 1024) ∧ (stepN go s a p f r).2.2 ≤ r := by
  unfold stepN
  have hf := K.find a p
  have hp := K.par a
  split
  · exact ⟨by simp, Nat.le_refl _⟩
  · split
    · exact ⟨⟨h0, h1⟩, Nat.le_refl _⟩
    · split
      · split
        · exact ⟨by simp, Nat.le_refl _⟩
        · exact ⟨hp, Nat.le_refl _⟩
      · split
        · exact ⟨by simp, Nat.le_refl _⟩
        · split
          · exact ⟨by simp, Nat.le_refl _⟩
          · split
            · exact ⟨hf, Nat.le_refl _⟩
            · split
              · exact ⟨by simp, Nat.le_refl _⟩
              · have := hg a (datO (ndAt s.T (findN s a p))) (r - 1) h0 h1
                exact ⟨this.1, by omega⟩
theorem loop_bnd {s : NS} {n : Nat} (K : NOk s n) {go : Int → List UInt8 → Nat → Int × Int × Nat} (hg : Bnd go) (f : Bool) : ∀ (ps : List (List UInt8)) (a : Int) (r : Nat), 0 ≤ a → a ≤ 1024 → (0 ≤ (loopN go s f ps a r).1 ∧ (loopN go s f ps a r).1 ≤ 1024) ∧ (loopN go s f ps a r).2.2 ≤ r
  | [], a, r, h0, h1 => ⟨⟨h0, h1⟩, Nat.le_refl _⟩
  | [p], a, r, h0, h1 => step_bnd K hg p f r h0 h1
  | p :: q :: ps, a, r, h0, h1 => by
    have hs := step_bnd K hg p true r h0 h1
    unfold loopN
    split
    · exact hs
    · have := loop_bnd K hg f (q :: ps) (stepN go s a p true r).1 (stepN go s a p true r).2.2 hs.1.1 hs.1.2
      exact ⟨this.1, Nat.le_trans this.2 hs.2⟩
theorem goF_bnd {s : NS} {k : Nat} (K : NOk s k) : ∀ n, Bnd (goF s n)
  | 0 => fun a t r _ _ => ⟨by simp [goF], Nat.le_refl _⟩
  | n + 1 => fun a t r h0 h1 => by
    show (0 ≤ (goesN s n a t true r).1 ∧ (goesN s n a t true r).1 ≤ 1024) ∧ (goesN s n a t true r).2.2 ≤ r
    rw [goes_is]
    split
    · exact ⟨by simp, Nat.le_refl _⟩
    · split
      · exact ⟨by simp, Nat.le_refl _⟩
      · split
        · exact loop_bnd K (goF_bnd K n) true _ _ _ (by decide) (by decide)
        · exact loop_bnd K (goF_bnd K n) true _ _ _ h0 h1
theorem goes_bnd {s : NS} {k : Nat} (K : NOk s k) (n : Nat) {a : Int} (p : List UInt8) (f : Bool) (r : Nat) (h0 : 0 ≤ a) (h1 : a ≤ 1024) : (0 ≤ (goesN s n a p f r).1 ∧ (goesN s n a p f r).1 ≤ 1024) ∧ (goesN s n a p f r).2.2 ≤ r := by
  rw [goes_is]
  split
  · exact ⟨by simp, Nat.le_refl _⟩
  · split
    · exact ⟨by simp, Nat.le_refl _⟩
    · split
      · exact loop_bnd K (goF_bnd K n) f _ _ _ (by decide) (by decide)
      · exact loop_bnd K (goF_bnd K n) f _ _ _ h0 h1
/-- On an error nothing is come to. -/
def Zer (go : Int → List UInt8 → Nat → Int × Int × Nat) : Prop := ∀ a t r, (go a t r).2.1 ≠ 0 → (go a t r).1 = 0
theorem step_zer {s : NS} {go : Int → List UInt8 → Nat → Int × Int × Nat} (hg : Zer go) (a : Int) (p : List UInt8) (f : Bool) (r : Nat) (h : (stepN go s a p f r).2.1 ≠ 0) : (stepN go s a p f r).1 = 0 := by
  unfold stepN at h ⊢
  split at h
  · rename_i h1; rw [if_pos h1]
  · rename_i h1
    rw [if_neg h1]
    split at h
    · exact absurd rfl h
    · rename_i h2
      rw [if_neg h2]
      split at h
      · rename_i h3
        rw [if_pos h3]
        split at h
        · rename_i h8; rw [if_pos h8]
        · exact absurd rfl h
      · rename_i h3
        rw [if_neg h3]
        split at h
        · rename_i h4; rw [if_pos h4]
        · rename_i h4
          rw [if_neg h4]
          split at h
          · rename_i h5; rw [if_pos h5]
          · rename_i h5
            rw [if_neg h5]
            split at h
            · exact absurd rfl h
            · rename_i h6
              rw [if_neg h6]
              split at h
              · rename_i h7; rw [if_pos h7]
              · rename_i h7
                rw [if_neg h7]
                exact hg _ _ _ h
theorem loop_zer {s : NS} {go : Int → List UInt8 → Nat → Int × Int × Nat} (hg : Zer go) (f : Bool) : ∀ (ps : List (List UInt8)) (a : Int) (r : Nat), (loopN go s f ps a r).2.1 ≠ 0 → (loopN go s f ps a r).1 = 0
  | [], a, r, h => absurd rfl h
  | [p], a, r, h => step_zer hg a p f r h
  | p :: q :: ps, a, r, h => by
    unfold loopN at h ⊢
    split at h
    · rename_i h1
      rw [if_pos h1]
      exact step_zer hg a p true r h1
    · rename_i h1
      rw [if_neg h1]
      exact loop_zer hg f (q :: ps) _ _ h
theorem goF_zer (s : NS) : ∀ n, Zer (goF s n)
  | 0 => fun a t r _ => rfl
  | n + 1 => fun a t r h => by
    have h : (goesN s n a t true r).2.1 ≠ 0 := h
    show (goesN s n a t true r).1 = 0
    rw [goes_is] at h ⊢
    split at h
    · rename_i h1; rw [if_pos h1]
    · rename_i h1
      rw [if_neg h1]
      split at h
      · rename_i h2; rw [if_pos h2]
      · rename_i h2
        rw [if_neg h2]
        split at h
        · rename_i h3; rw [if_pos h3]; exact loop_zer (goF_zer s n) true _ _ _ h
        · rename_i h3; rw [if_neg h3]; exact loop_zer (goF_zer s n) true _ _ _ h

end Go.Proofs.Ytemologkibcdoaa

/- Directories (stage 13): through, step. -/
namespace Go.Proofs.Ytemologkibcdoaa
open Go.RowKit Go.Maps

theorem dat_max {s : NS} {n : Nat} (K : NOk s n) (i : Int) : (datO (ndAt s.T i)).length ≤ 4096 := by
  cases hx : ndAt s.T i with
  | none => exact Nat.zero_le _
  | some x =>
    obtain ⟨k, _, hk, _⟩ := ndAt_some hx
    show (datOf x).length ≤ 4096
    rw [datOf_len]
    exact (K.gd k x hk).1.size
end Go.Proofs.Ytemologkibcdoaa
