/-
  InodesPlays holds: for every number of nodes and blocks and every row of calls (up to 80, of up to 5000 bytes), each call answers what the table of the document answers, and the node has, and free is, what the document says, call by call, and the examples of the chapter come out. No condition.
-/
import Derived.Test.YtcfhgjlihifmnaaIPlays
import Derived.Test.YtcfhgjlihifmnaaIStart
import Derived.Lay
import Derived.Stop.Joined
namespace Go.Proofs.Ytcfhgjlihifmnaa
open Go.ChangeShapes Go.WideShapes Go.ChangeAt Go.RowKit
open Go.ChangeMaps (open_string)

set_option maxRecDepth 100000 in
theorem inodesPlays_lifted (os : Os) (started : os.Started) (H : Type) (enc : TypeId × Value → H) :
    ReturnsInHanded {} Try.checked os 3 .any (Rows.inodesPlaysSpec.pre6 enc Try.prog Try.f3 Rows.inodesPlaysRow.domain false) (Rows.inodesPlaysSpec.post enc Try.prog Try.f3 false true false false) := by
  refine law_lifted (C := Try.checked) (tb := 4) own started (by kernel_rfl) Try.func3 laidOut rfl (read_of (by kernel_rfl)) (by kernel_rfl) Try.underlying4 ?_
    (ChangeSpec.witness6 (enc := enc) (C := Try.checked) false ⟨#[], #[.agg #[.int .i64 0, .int .i64 0], .slice none 0 0], []⟩ 8 (by kernel_rfl) (by kernel_rfl) (by kernel_rfl) (by kernel_rfl)) ?_
  · intro ds hds
    rw [show Try.f3.params.toList.length = 2 from by kernel_rfl] at hds
    match ds, hds with
    | [d0, d1], _ => rfl
  · intro W base args ds ps hval0 hA0
    have hval : ∀ (j : Nat) t v, Try.f3.params[j]? = some t → args[j]? = some v → Value.okWide Try.prog W .any base t v := hval0
    have hA : DataW.TrodAll enc Try.prog W 0 (fun _ => true) true Try.f3.params.toList args.toList ds ps := hA0
    rw [Try.params3] at hA hval
    obtain ⟨v0, v1, d0, d1, p0, p1, rfl, rfl, rfl, h0, h1⟩ := trodAll_two hA
    obtain ⟨a0, b0, rfl, ca0, cb0⟩ := two_of h0 (okWide_array Try.underlying22 (hval 0 22 v0 rfl rfl))
    have k1 := okWide_slice Try.underlying23 (hval 1 23 v1 rfl rfl)
    obtain ⟨L1, hl1, hm1⟩ := opsrow_of k1 h1
    exact plays_walk a0 b0 v1 L1 W ca0 cb0 hl1

theorem inodesPlays_holds : Rows.InodesPlaysSaid :=
  OpenClaim.holds_of_wide 3 Try.f3 rfl rfl rfl rfl rfl rfl rfl ⟨rfl, rfl, rfl, rfl, rfl⟩ rfl rfl rfl rfl rfl (by kernel_rfl) Try.func3 (by kernel_rfl)
    (of_decide_eq_true (by kernel_rfl)) (by unfold Func.isWrapper; first | (rw [if_pos (by decide +kernel)]; kernel_rfl) | (rw [if_neg (by decide +kernel)]; exact ⟨rfl, rfl⟩))
    (fun os started H enc _ => inodesPlays_lifted os started H enc)
#print axioms inodesPlays_holds

end Go.Proofs.Ytcfhgjlihifmnaa
