/-
  SplitHard holds: for every list of up to 10 texts of up to 20 bytes, none with a byte 58 in it, the texts with a byte 58 behind each, split by ifs 58, are just these texts, also the empty ones, and the examples of the chapter come out; of other lists the examples alone. No condition.
-/
import Derived.Test.YtpljphbaibncjaaSHard
import Derived.Test.YtpljphbaibncjaaSFrame
import Derived.Lay
import Derived.Stop.Joined
namespace Go.Proofs.Ytpljphbaibncjaa
open Go.ChangeShapes Go.WideShapes Go.ChangeAt Go.RowKit
open Go.ChangeMaps (open_string)

set_option maxRecDepth 100000 in
theorem splitHard_lifted (os : Os) (started : os.Started) (H : Type) (enc : TypeId × Value → H) :
    ReturnsInHanded {} Try.checked os 7 .any (Rows.splitHardSpec.pre6 enc Try.prog Try.f7 Rows.splitHardRow.domain false) (Rows.splitHardSpec.post enc Try.prog Try.f7 false true false false) := by
  refine law_lifted (C := Try.checked) (tb := 4) own started (by kernel_rfl) Try.func7 laidOut rfl (read_of (by kernel_rfl)) (by kernel_rfl) Try.underlying4 ?_
    (ChangeSpec.witness6 (enc := enc) (C := Try.checked) false ⟨#[], #[.slice none 0 0], []⟩ 8 (by kernel_rfl) (by kernel_rfl) (by kernel_rfl) (by kernel_rfl)) ?_
  · intro ds hds
    rw [show Try.f7.params.toList.length = 1 from by kernel_rfl] at hds
    match ds, hds with
    | [d0], _ => rfl
  · intro W base args ds ps hval0 hA0
    have hval : ∀ (j : Nat) t v, Try.f7.params[j]? = some t → args[j]? = some v → Value.okWide Try.prog W .any base t v := hval0
    have hA : DataW.TrodAll enc Try.prog W 0 (fun _ => true) true Try.f7.params.toList args.toList ds ps := hA0
    rw [Try.params7] at hA hval
    obtain ⟨v0, d0, rfl, rfl, h0⟩ := trodAll_one hA
    have k0 := okWide_slice Try.underlying44 (hval 0 44 v0 rfl rfl)
    obtain ⟨L0, hl0, hm0⟩ := texts_of k0 h0
    exact hard_walk v0 L0 W hl0

theorem splitHard_holds : Rows.SplitHardSaid :=
  OpenClaim.holds_of_wide 7 Try.f7 rfl rfl rfl rfl rfl rfl rfl ⟨rfl, rfl, rfl, rfl, rfl⟩ rfl rfl rfl rfl rfl (by kernel_rfl) Try.func7 (by kernel_rfl)
    (of_decide_eq_true (by kernel_rfl)) (by unfold Func.isWrapper; first | (rw [if_pos (by decide +kernel)]; kernel_rfl) | (rw [if_neg (by decide +kernel)]; exact ⟨rfl, rfl⟩))
    (fun os started H enc _ => splitHard_lifted os started H enc)
#print axioms splitHard_holds

end Go.Proofs.Ytpljphbaibncjaa
