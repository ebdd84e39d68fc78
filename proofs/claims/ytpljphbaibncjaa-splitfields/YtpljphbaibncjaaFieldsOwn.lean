/-
  SplitFields holds: for every list of up to 30 pieces of up to 100 bytes and every ifs of up to 100 bytes, Fields and One answer what the functions of the document answer, and the examples of the chapter come out; of other arguments the examples alone. No condition.
-/
import Derived.Test.YtpljphbaibncjaaSBoth
import Derived.Test.YtpljphbaibncjaaSFrame
import Derived.Lay
import Derived.Stop.Joined
namespace Go.Proofs.Ytpljphbaibncjaa
open Go.ChangeShapes Go.WideShapes Go.ChangeAt Go.RowKit
open Go.ChangeMaps (open_string)

set_option maxRecDepth 100000 in
theorem splitFields_lifted (os : Os) (started : os.Started) (H : Type) (enc : TypeId × Value → H) :
    ReturnsInHanded {} Try.checked os 3 .any (Rows.splitFieldsSpec.pre6 enc Try.prog Try.f3 Rows.splitFieldsRow.domain false) (Rows.splitFieldsSpec.post enc Try.prog Try.f3 false true false false) := by
  refine law_lifted (C := Try.checked) (tb := 4) own started (by kernel_rfl) Try.func3 laidOut rfl (read_of (by kernel_rfl)) (by kernel_rfl) Try.underlying4 ?_
    (ChangeSpec.witness6 (enc := enc) (C := Try.checked) false ⟨#[], #[.slice none 0 0, .string ⟨#[]⟩], []⟩ 8 (by kernel_rfl) (by kernel_rfl) (by kernel_rfl) (by kernel_rfl)) ?_
  · intro ds hds
    rw [show Try.f3.params.toList.length = 2 from by kernel_rfl] at hds
    match ds, hds with
    | [d0, d1], _ => rfl
  · intro W base args ds ps hval0 hA0
    have hval : ∀ (j : Nat) t v, Try.f3.params[j]? = some t → args[j]? = some v → Value.okWide Try.prog W .any base t v := hval0
    have hA : DataW.TrodAll enc Try.prog W 0 (fun _ => true) true Try.f3.params.toList args.toList ds ps := hA0
    rw [Try.params3] at hA hval
    obtain ⟨v0, v1, d0, d1, p0, p1, rfl, rfl, rfl, h0, h1⟩ := trodAll_two hA
    have k0 := okWide_slice Try.underlying22 (hval 0 22 v0 rfl rfl)
    obtain ⟨L0, hl0, hm0⟩ := pieces_of k0 h0
    obtain ⟨s1, rfl, rfl, rfl, _⟩ := open_string Try.underlying9 (hval 1 9 v1 rfl rfl) h1
    exact both_walk v0 L0 s1.data.toList W hl0

theorem splitFields_holds : Rows.SplitFieldsSaid :=
  OpenClaim.holds_of_wide 3 Try.f3 rfl rfl rfl rfl rfl rfl rfl ⟨rfl, rfl, rfl, rfl, rfl⟩ rfl rfl rfl rfl rfl (by kernel_rfl) Try.func3 (by kernel_rfl)
    (of_decide_eq_true (by kernel_rfl)) (by unfold Func.isWrapper; first | (rw [if_pos (by decide +kernel)]; kernel_rfl) | (rw [if_neg (by decide +kernel)]; exact ⟨rfl, rfl⟩))
    (fun os started H enc _ => splitFields_lifted os started H enc)
#print axioms splitFields_holds

end Go.Proofs.Ytpljphbaibncjaa
