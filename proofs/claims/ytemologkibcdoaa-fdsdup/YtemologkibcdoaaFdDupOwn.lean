/-
  FdsDup holds: at any row of texts, any two numbers and any row of choices: two numbers on one sink write to the same, Sunk tells all that was written in order, closing one leaves the other open, closing both leaves nothing, and the examples of the chapter come out; the conditions are the law's own.
-/
import Derived.Test.YtemologkibcdoaaM43
import Derived.Lay
import Derived.Stop.Joined
namespace Go.Proofs.Ytemologkibcdoaa
open Go.ChangeShapes Go.WideShapes Go.ChangeAt Go.RowKit
open Go.ChangeMaps (open_string)

set_option maxRecDepth 100000 in
theorem fdsDup_lifted (os : Os) (started : os.Started) (H : Type) (enc : TypeId × Value → H) :
    ReturnsInHanded {} Try.checked os 3 .any (Rows.fdsDupSpec.pre6 enc Try.prog Try.f3 Rows.fdsDupRow.domain false) (Rows.fdsDupSpec.post enc Try.prog Try.f3 false true false false) := by
  refine law_lifted (C := Try.checked) (tb := 4) own started (by kernel_rfl) Try.func3 laidOut rfl (read_of (by kernel_rfl)) (by kernel_rfl) Try.underlying4 ?_
    (ChangeSpec.witness6 (enc := enc) (C := Try.checked) false ⟨#[], #[.slice none 0 0, .agg #[.int .i64 0, .int .i64 0], .slice none 0 0], []⟩ 8 (by kernel_rfl) (by kernel_rfl) (by kernel_rfl) (by kernel_rfl)) ?_
  · intro ds hds
    rw [show Try.f3.params.toList.length = 3 from by kernel_rfl] at hds
    match ds, hds with
    | [d0, d1, d2], _ => rfl
  · intro W base args ds ps hval0 hA0
    have hval : ∀ (j : Nat) t v, Try.f3.params[j]? = some t → args[j]? = some v → Value.okWide Try.prog W .any base t v := hval0
    have hA : DataW.TrodAll enc Try.prog W 0 (fun _ => true) true Try.f3.params.toList args.toList ds ps := hA0
    rw [Try.params3] at hA hval
    obtain ⟨v0, v1, v2, d0, d1, d2, p0, p1, p2, rfl, rfl, rfl, h0, h1, h2⟩ := trodAll_three hA
    obtain ⟨L0, hl0, hm0⟩ := texts_of (okWide_slice Try.underlying22 (hval 0 22 v0 rfl rfl)) h0
    obtain ⟨a1, b1, rfl, ca1, cb1⟩ := two_of h1 (okWide_array Try.underlying23 (hval 1 23 v1 rfl rfl))
    obtain ⟨L2, hl2, hm2⟩ := bools_of (okWide_slice Try.underlying24 (hval 2 24 v2 rfl rfl)) h2
    exact fdsdup_walk v0 v2 a1 b1 L0 L2 W ⟨trivial, Below.refl _ _, grownS_of_below (Below.refl _ _), fun _ h => h⟩ hl0 hl2

theorem fdsDup_holds : Rows.FdsDupSaid :=
  OpenClaim.holds_of_wide 3 Try.f3 rfl rfl rfl rfl rfl rfl rfl ⟨rfl, rfl, rfl, rfl, rfl⟩ rfl rfl rfl rfl rfl (by kernel_rfl) Try.func3 (by kernel_rfl)
    (of_decide_eq_true (by kernel_rfl)) (by unfold Func.isWrapper; first | (rw [if_pos (by decide +kernel)]; kernel_rfl) | (rw [if_neg (by decide +kernel)]; exact ⟨rfl, rfl⟩))
    (fun os started H enc _ => fdsDup_lifted os started H enc)
#print axioms fdsDup_holds

end Go.Proofs.Ytemologkibcdoaa
