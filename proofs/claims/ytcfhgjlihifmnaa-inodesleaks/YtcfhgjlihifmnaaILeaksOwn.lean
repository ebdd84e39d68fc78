/-
  InodesLeaks holds: for every row of calls (up to 80, of up to 5000 bytes; no Copy), when the last name and the last user of all nodes are gone, all nodes and blocks are free again, and no more blocks are used than bytes need, and the examples of the chapter come out. No condition.
-/
import Derived.Test.YtcfhgjlihifmnaaILeaks
import Derived.Test.YtcfhgjlihifmnaaIStart
import Derived.Lay
import Derived.Stop.Joined
namespace Go.Proofs.Ytcfhgjlihifmnaa
open Go.ChangeShapes Go.WideShapes Go.ChangeAt Go.RowKit
open Go.ChangeMaps (open_string)

set_option maxRecDepth 100000 in
theorem inodesLeaks_lifted (os : Os) (started : os.Started) (H : Type) (enc : TypeId × Value → H) :
    ReturnsInHanded {} Try.checked os 5 .any (Rows.inodesLeaksSpec.pre6 enc Try.prog Try.f5 Rows.inodesLeaksRow.domain false) (Rows.inodesLeaksSpec.post enc Try.prog Try.f5 false true false false) := by
  refine law_lifted (C := Try.checked) (tb := 4) own started (by kernel_rfl) Try.func5 laidOut rfl (read_of (by kernel_rfl)) (by kernel_rfl) Try.underlying4 ?_
    (ChangeSpec.witness6 (enc := enc) (C := Try.checked) false ⟨#[], #[.slice none 0 0], []⟩ 8 (by kernel_rfl) (by kernel_rfl) (by kernel_rfl) (by kernel_rfl)) ?_
  · intro ds hds
    rw [show Try.f5.params.toList.length = 1 from by kernel_rfl] at hds
    match ds, hds with
    | [d0], _ => rfl
  · intro W base args ds ps hval0 hA0
    have hval : ∀ (j : Nat) t v, Try.f5.params[j]? = some t → args[j]? = some v → Value.okWide Try.prog W .any base t v := hval0
    have hA : DataW.TrodAll enc Try.prog W 0 (fun _ => true) true Try.f5.params.toList args.toList ds ps := hA0
    rw [Try.params5] at hA hval
    obtain ⟨v0, d0, rfl, rfl, h0⟩ := trodAll_one hA
    have k0 := okWide_slice Try.underlying23 (hval 0 23 v0 rfl rfl)
    obtain ⟨L0, hl0, hm0⟩ := opsrow_of k0 h0
    exact leaks_walk v0 L0 W hl0

theorem inodesLeaks_holds : Rows.InodesLeaksSaid :=
  OpenClaim.holds_of_wide 5 Try.f5 rfl rfl rfl rfl rfl rfl rfl ⟨rfl, rfl, rfl, rfl, rfl⟩ rfl rfl rfl rfl rfl (by kernel_rfl) Try.func5 (by kernel_rfl)
    (of_decide_eq_true (by kernel_rfl)) (by unfold Func.isWrapper; first | (rw [if_pos (by decide +kernel)]; kernel_rfl) | (rw [if_neg (by decide +kernel)]; exact ⟨rfl, rfl⟩))
    (fun os started H enc _ => inodesLeaks_lifted os started H enc)
#print axioms inodesLeaks_holds

end Go.Proofs.Ytcfhgjlihifmnaa
