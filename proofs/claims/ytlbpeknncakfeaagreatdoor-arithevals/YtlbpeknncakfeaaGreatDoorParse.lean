/-
  How an expression is read: a plain function on lists of bytes, with fuel.
-/
import Derived.Test.YtlbpeknncakfeaaGreatDoorWord
import Derived.Test.YtlbpeknncakfeaaGreatDoorSign
namespace Go.Proofs.YtlbpeknncakfeaaGreatDoor
open Go.RowKit Go.Maps
attribute [local irreducible] findOp findSign

/-- What is behind a byte, if it stands at the front. -/
def tk (c : UInt8) (l : List UInt8) : Option (List UInt8) := if Lib.hasPrefix (sk l) [c] then some (Lib.trimPrefix (sk l) [c]) else none
def mkSet (nm op : List UInt8) (x : E) : E := match findOp op with
  | some o => .set nm (.chg nm o x)
  | none => .set nm x
def nameOf (m : List UInt8) : List UInt8 := m.take (frontN m)
/-- The name that is set at the front, the operator within the sign, what is behind. -/
def setAt (m : List UInt8) : Option (List UInt8 × List UInt8) := if (nameOf m).isEmpty then none else setSign (m.drop (frontN m))

mutual
def pExpr : Nat → List UInt8 → Option (E × List UInt8)
  | 0, _ => none
  | k + 1, l => match setAt (sk l) with
    | none => pChoice k (sk l)
    | some (op, b) => match pExpr k b with
      | none => none
      | some (x, r) => some (mkSet (nameOf (sk l)) op x, r)
def pChoice : Nat → List UInt8 → Option (E × List UInt8)
  | 0, _ => none
  | k + 1, l => match pOp k 1 l with
    | none => none
    | some (c, r) => match tk 63 r with
      | none => some (c, sk r)
      | some r1 => match pExpr k r1 with
        | none => none
        | some (y, r2) => match tk 58 r2 with
          | none => none
          | some r3 => match pChoice k r3 with
            | none => none
            | some (n, r4) => some (.choice c y n, r4)
def pOp : Nat → Nat → List UInt8 → Option (E × List UInt8)
  | 0, _, _ => none
  | k + 1, rank, l => match pOperand k l with
    | none => none
    | some (x, r) => pLoop k rank x r
def pLoop : Nat → Nat → E → List UInt8 → Option (E × List UInt8)
  | 0, _, _, _ => none
  | k + 1, rank, x, l => match opAt (sk l) with
    | none => some (x, sk l)
    | some (o, n) => if o.rank < rank then some (x, sk l) else match pOp k (o.rank + 1) ((sk l).drop n) with
      | none => none
      | some (y, r) => pLoop k rank (.op o x y) r
def pOperand : Nat → List UInt8 → Option (E × List UInt8)
  | 0, _ => none
  | k + 1, l => match sk l with
    | [] => none
    | c :: r => match findSign [c] with
      | some f => match pOperand k r with
        | none => none
        | some (x, r') => some (.sign f x, r')
      | none => if c = 40 then match pExpr k r with
          | none => none
          | some (x, r1) => match tk 41 r1 with
            | none => none
            | some r2 => some (x, r2)
        else pWord (c :: r)
end

theorem sk_nil : sk [] = [] := rfl
theorem sk_sk (l : List UInt8) : sk (sk l) = sk l := by
  rw [sk_eq, sk_eq]
  induction l with
  | nil => rfl
  | cons c l ih =>
    rw [List.dropWhile_cons]
    split
    · exact ih
    · next h => rw [List.dropWhile_cons, if_neg h]
theorem tk_len {c : UInt8} {l r : List UInt8} (h : tk c l = some r) : r.length < l.length := by
  unfold tk at h
  split at h
  · next hp =>
    cases h
    unfold Lib.trimPrefix
    rw [if_pos hp]
    have := List.IsPrefix.length_le (List.isPrefixOf_iff_prefix.1 hp)
    have := sk_len l
    simp at *
    omega
  · cases h
theorem opUpTo_le {l : List UInt8} {o : Opr} {n : Nat} : ∀ {m : Nat}, opUpTo l m = some (o, n) → 0 < n ∧ n ≤ m ∧ findOp (l.take n) = some o
  | 0, h => by cases h
  | m + 1, h => by
    rw [opUpTo_succ] at h
    cases hf : findOp (l.take (m + 1)) with
    | some o' => rw [hf] at h; cases h; exact ⟨by omega, by omega, hf⟩
    | none => rw [hf] at h; have := opUpTo_le h; exact ⟨this.1, by omega, this.2.2⟩
theorem opAt_le {l : List UInt8} {o : Opr} {n : Nat} (h : opAt l = some (o, n)) : 0 < n ∧ n ≤ l.length ∧ findOp (l.take n) = some o := by
  have := opUpTo_le h
  exact ⟨this.1, by omega, this.2.2⟩
theorem setAt_len {m op b : List UInt8} (h : setAt m = some (op, b)) : b.length + 1 + (nameOf m).length ≤ m.length ∧ op ∈ setOps ∧ 0 < (nameOf m).length ∧ setSign (m.drop (frontN m)) = some (op, b) := by
  unfold setAt at h
  split at h
  · cases h
  · next hn =>
    have h2 := signIn_len h
    have h3 := sk_len (m.drop (frontN m))
    have h4 : 0 < (nameOf m).length := by
      cases hm : nameOf m with
      | nil => rw [hm] at hn; simp at hn
      | cons => simp
    refine ⟨?_, h2.2, h4, h⟩
    have h5 : (nameOf m).length = min (frontN m) m.length := by unfold nameOf; rw [List.length_take]
    rw [List.length_drop] at h3
    simp only at h2
    omega

/-- How many names an expression asks or sets. -/
def cost : E → Nat
  | .num _ => 0
  | .name _ => 1
  | .sign _ e => cost e
  | .op _ a b => cost a + cost b
  | .choice c y n => cost c + cost y + cost n
  | .set _ e => 1 + cost e
  | .chg _ _ e => 1 + cost e
theorem cost_mkSet (nm op : List UInt8) (x : E) : cost (mkSet nm op x) ≤ 2 + cost x := by
  unfold mkSet
  split <;> simp [cost] <;> omega
theorem pWord_len {l r : List UInt8} {x : E} (h : pWord l = some (x, r)) : cost x + r.length ≤ l.length := by
  unfold pWord at h
  split at h
  · next hn =>
    cases h
    have hs : 0 < (wordL l).length := by
      unfold nameB at hn
      rw [Bool.and_eq_true] at hn
      exact of_decide_eq_true hn.1
    unfold wordL at hs
    rw [List.length_take] at hs
    rw [List.length_drop]
    simp only [cost]
    omega
  · split at h
    · cases h
      rw [List.length_drop]
      simp only [cost]
      omega
    · cases h

theorem p_len : ∀ k : Nat, (∀ l x r, pExpr k l = some (x, r) → cost x + r.length ≤ l.length) ∧ (∀ l x r, pChoice k l = some (x, r) → cost x + r.length ≤ l.length) ∧ (∀ n l x r, pOp k n l = some (x, r) → cost x + r.length ≤ l.length) ∧
    (∀ n y l x r, pLoop k n y l = some (x, r) → cost x + r.length ≤ cost y + l.length) ∧ (∀ l x r, pOperand k l = some (x, r) → cost x + r.length ≤ l.length)
  | 0 => by
    refine ⟨fun l x r h => ?_, fun l x r h => ?_, fun n l x r h => ?_, fun n y l x r h => ?_, fun l x r h => ?_⟩
    · rw [pExpr] at h; cases h
    · rw [pChoice] at h; cases h
    · rw [pOp] at h; cases h
    · rw [pLoop] at h; cases h
    · rw [pOperand] at h; cases h
  | k + 1 => by
    obtain ⟨iE, iC, iO, iL, iR⟩ := p_len k
    refine ⟨fun l x r h => ?_, fun l x r h => ?_, fun n l x r h => ?_, fun n y l x r h => ?_, fun l x r h => ?_⟩
    · have hs := sk_len l
      rw [pExpr] at h
      split at h
      · have := iC _ _ _ h; omega
      · next op b hb =>
        have h1 := setAt_len hb
        split at h
        · cases h
        · next x' r' hx =>
          have h2 := iE _ _ _ hx
          cases h
          have := cost_mkSet (nameOf (sk l)) op x'
          omega
    · rw [pChoice] at h
      split at h
      · cases h
      · next c r0 hc =>
        have h1 := iO _ _ _ _ hc
        split at h
        · cases h
          have := sk_len r0
          omega
        · next r1 h63 =>
          have h2 := tk_len h63
          split at h
          · cases h
          · next y r2 hy =>
            have h3 := iE _ _ _ hy
            split at h
            · cases h
            · next r3 h58 =>
              have h4 := tk_len h58
              split at h
              · cases h
              · next n r4 hn =>
                have h5 := iC _ _ _ hn
                cases h
                simp only [cost]
                omega
    · rw [pOp] at h
      split at h
      · cases h
      · next x' r' hx =>
        have h1 := iR _ _ _ hx
        have h2 := iL _ _ _ _ _ h
        omega
    · have hs := sk_len l
      rw [pLoop] at h
      split at h
      · cases h; omega
      · next o m ho =>
        have h0 := opAt_le ho
        split at h
        · cases h; omega
        · split at h
          · cases h
          · next y' r' hy =>
            have h1 := iO _ _ _ _ hy
            have h2 := iL _ _ _ _ _ h
            rw [List.length_drop] at h1
            simp only [cost] at h2
            omega
    · have hs := sk_len l
      rw [pOperand] at h
      split at h
      · cases h
      · next c r0 hl =>
        rw [hl] at hs
        simp only [List.length_cons] at hs
        split at h
        · split at h
          · cases h
          · next x' r' hx =>
            have h1 := iR _ _ _ hx
            cases h
            simp only [cost]
            omega
        · split at h
          · split at h
            · cases h
            · next x' r1 hx =>
              have h1 := iE _ _ _ hx
              split at h
              · cases h
              · next r2 h41 =>
                have h2 := tk_len h41
                cases h
                omega
          · have := pWord_len h
            simp only [List.length_cons] at this
            omega

end Go.Proofs.YtlbpeknncakfeaaGreatDoor
