/-
  SplitBlanks holds: for every list of up to 10 words of up to 20 bytes without blanks, and every list of gaps, the words with one to five blanks between, ahead and behind, split by the usual ifs, are just these words, without the empty ones, and the examples of the chapter come out; of other lists the examples alone. No condition.
-/
import Derived.Test.YtpljphbaibncjaaSBlanks
import Derived.Test.YtpljphbaibncjaaSFrame
import Derived.Lay
import Derived.Stop.Joined
namespace Go.Proofs.Ytpljphbaibncjaa
open Go.ChangeShapes Go.WideShapes Go.ChangeAt Go.RowKit
open Go.ChangeMaps (open_string)

set_option maxRecDepth 100000 in
theorem splitBlanks_lifted (os : Os) (started : os.Started) (H : Type) (enc : TypeId × Value → H) :
    ReturnsInHanded {} Try.checked os 6 .any (Rows.splitBlanksSpec.pre6 enc Try.prog Try.f6 Rows.splitBlanksRow.domain false) (Rows.splitBlanksSpec.post enc Try.prog Try.f6 false true false false) := by
  refine law_lifted (C := Try.checked) (tb := 4) own started (by kernel_rfl) Try.func6 laidOut rfl (read_of (by kernel_rfl)) (by kernel_rfl) Try.underlying4 ?_
    (ChangeSpec.witness6 (enc := enc) (C := Try.checked) false ⟨#[], #[.slice none 0 0, .slice none 0 0], []⟩ 8 (by kernel_rfl) (by kernel_rfl) (by kernel_rfl) (by kernel_rfl)) ?_
  · intro ds hds
    rw [show Try.f6.params.toList.length = 2 from by kernel_rfl] at hds
    match ds, hds with
    | [d0, d1], _ => rfl
  · intro W base args ds ps hval0 hA0
    have hval : ∀ (j : Nat) t v, Try.f6.params[j]? = some t → args[j]? = some v → Value.okWide Try.prog W .any base t v := hval0
    have hA : DataW.TrodAll enc Try.prog W 0 (fun _ => true) true Try.f6.params.toList args.toList ds ps := hA0
    rw [Try.params6] at hA hval
    obtain ⟨v0, v1, d0, d1, p0, p1, rfl, rfl, rfl, h0, h1⟩ := trodAll_two hA
    have k0 := okWide_slice Try.underlying44 (hval 0 44 v0 rfl rfl)
    obtain ⟨L0, hl0, hm0⟩ := texts_of k0 h0
    have k1 := okWide_slice Try.underlying45 (hval 1 45 v1 rfl rfl)
    obtain ⟨L1, hl1, hm1⟩ := ints_of k1 h1
    exact blanks_walk v0 v1 L0 L1 W hl0 hl1 hm1

theorem splitBlanks_holds : Rows.SplitBlanksSaid :=
  OpenClaim.holds_of_wide 6 Try.f6 rfl rfl rfl rfl rfl rfl rfl ⟨rfl, rfl, rfl, rfl, rfl⟩ rfl rfl rfl rfl rfl (by kernel_rfl) Try.func6 (by kernel_rfl)
    (of_decide_eq_true (by kernel_rfl)) (by unfold Func.isWrapper; first | (rw [if_pos (by decide +kernel)]; kernel_rfl) | (rw [if_neg (by decide +kernel)]; exact ⟨rfl, rfl⟩))
    (fun os started H enc _ => splitBlanks_lifted os started H enc)
#print axioms splitBlanks_holds

end Go.Proofs.Ytpljphbaibncjaa
