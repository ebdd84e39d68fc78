/-
  What is wrong is never 0.
-/
import Derived.Test.YtodcfgbcigjjfaaDoorThing
namespace Go.Proofs.YtodcfgbcigjjfaaDoor

def NZ : Rs → Prop
  | .ok _ => True
  | .err e _ => e ≠ 0
theorem nz_ite {c : Prop} [Decidable c] {x y : Rs} (hx : NZ x) (hy : NZ y) : NZ (if c then x else y) := by
  split
  · exact hx
  · exact hy
theorem c_nz : ∀ f : Nat, (∀ l fr e wh d, NZ (cls f l fr e wh d)) ∧ (∀ l fr e wh d, NZ (lop f l fr e wh d)) ∧ (∀ l wh d, NZ (thg f l wh d))
  | 0 => ⟨fun l fr e wh d => by rw [cls]; trivial, fun l fr e wh d => by rw [lop]; trivial, fun l wh d => by rw [thg]; trivial⟩
  | f + 1 => by
    obtain ⟨iC, iL, iT⟩ := c_nz f
    refine ⟨fun l fr e wh d => ?_, fun l fr e wh d => ?_, fun l wh d => ?_⟩
    · rw [cls_succ]
      exact nz_ite (show (3 : Int) ≠ 0 by decide) (iL _ _ _ _ _)
    · cases l with
      | nil => rw [lop_nil]; exact (show (11 : Int) ≠ 0 by decide)
      | cons c r =>
        rw [lop_succ]
        refine nz_ite trivial ?_
        have h1 := iT (c :: r) wh d
        cases hq : thg f (c :: r) wh d with
        | ok r' => exact iL r' fr e wh d
        | err x b =>
          rw [hq] at h1
          exact h1
    · cases l with
      | nil => rw [thg]; trivial
      | cons c r =>
        rw [thg_succ]
        refine nz_ite trivial (nz_ite (nz_ite trivial (iC _ _ _ _ _)) (nz_ite (nz_ite trivial ?_) (nz_ite (nz_ite (iC _ _ _ _ _) (nz_ite (iC _ _ _ _ _) trivial)) (nz_ite (nz_ite (iC _ _ _ _ _) trivial) (nz_ite (show (10 : Int) ≠ 0 by decide) trivial)))))
        split
        · exact (show (11 : Int) ≠ 0 by decide)
        · trivial


end Go.Proofs.YtodcfgbcigjjfaaDoor
