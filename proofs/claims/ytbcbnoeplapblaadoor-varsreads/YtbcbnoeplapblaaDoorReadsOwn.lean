/-
  VarsReads holds: a variable that may only be read keeps its value, set or not, whatever is called (up to 60 calls, texts of up to 200 bytes), and Set and Unset of it are ErrRead; the chapter's examples come out; of others the examples alone. No condition but what the row lists: the tables that the program lays.
-/
import Derived.Test.YtbcbnoeplapblaaDoorVStart
import Derived.Test.YtbcbnoeplapblaaDoorVReads
namespace Go.Proofs.YtbcbnoeplapblaaDoor
open Go.ChangeShapes Go.WideShapes Go.ChangeAt Go.RowKit
open Go.ChangeMaps (open_string shut_string)

set_option maxRecDepth 100000 in
theorem varsReads_lifted (os : Os) (started : os.Started) (H : Type) (enc : TypeId × Value → H) :
    ReturnsInHanded {} Tryd.checked os 5 .any (fun w args => (Rows.varsReadsSpec.pre enc Tryd.prog Tryd.f5 [] false w args ∧ laidMetH Tryd.prog seatLaid w) ∧ sizedMet enc Tryd.prog Tryd.f5 (OpenSpec.ofChange Rows.varsReadsSpec) false w args)
      (Rows.varsReadsSpec.post enc Tryd.prog Tryd.f5 false true false false) := by
  refine law_lifted (C := Tryd.checked) (L := seatLaid) (tb := 4) own started (by kernel_rfl) Tryd.func5 laidOut rfl (read_of (by kernel_rfl)) (by kernel_rfl) Tryd.underlying4 ?_
    (ChangeSpec.witness_shaped (enc := enc) (C := Tryd.checked) (os := os) (X := fun w _ => laidMetH Tryd.prog seatLaid w) false (World.laidAll Tryd.prog os seatLaid) #[.slice none 0 0, .agg #[.string ⟨#[]⟩, .string ⟨#[]⟩, .bool false]] 8 (World.laidAll_os _ _ _)
      (World.shaped_of_ZipB (by kernel_rfl) (by kernel_rfl)) (by kernel_rfl) (by kernel_rfl) (by kernel_rfl) (door_met os _)) ?_
  · intro ds hds
    rw [show Tryd.f5.params.toList.length = 2 from by kernel_rfl] at hds
    match ds, hds with
    | [d0, d1], _ => rfl
  · intro W base args ds ps hval0 hA0 hL hsh
    have hval : ∀ (j : Nat) t v, Tryd.f5.params[j]? = some t → args[j]? = some v → Value.okWide Tryd.prog W .any base t v := hval0
    have hA : DataW.TrodAll enc Tryd.prog W 0 (fun _ => true) true Tryd.f5.params.toList args.toList ds ps := hA0
    rw [Tryd.params5] at hA hval
    obtain ⟨v0, v1, d0, d1, p0, p1, rfl, rfl, rfl, h0, h1⟩ := trodAll_two hA
    have k0 := okWide_slice Tryd.underlying22 (hval 0 22 v0 rfl rfl)
    obtain ⟨L0, hl0⟩ := ops_of k0 h0
    obtain ⟨n1, x1, b1, rfl⟩ := reads_of (okWide_struct Tryd.underlying48 (hval 1 48 v1 rfl rfl)) h1
    exact reads_walk v0 L0 n1 x1 b1 W hl0

theorem varsReads_row : Rows.VarsReadsSaid :=
  OpenClaim.holds_of_wide 5 Tryd.f5 rfl rfl rfl rfl rfl rfl rfl ⟨rfl, rfl, rfl, rfl, rfl⟩ rfl rfl rfl rfl rfl (by kernel_rfl) Tryd.func5 (by kernel_rfl)
    (of_decide_eq_true (by kernel_rfl)) (by unfold Func.isWrapper; first | (rw [if_pos (by decide +kernel)]; kernel_rfl) | (rw [if_neg (by decide +kernel)]; exact ⟨rfl, rfl⟩))
    (fun os started H enc _ => varsReads_lifted os started H enc)

theorem varsReads_holds : Rows.VarsReadsCardSaid :=
  Claim7.holds_tied_plain_at .later [] [.data, .data, .data] true (true, "98e346b5e83dd4da7e01dc44aa70d4fc3de72d233b322d51126da0a6d7cacf60") true
    varsReads_row (fun _ h => by cases h) (by kernel_rfl) (fun _ h => by cases h) varsReads_row_tie rfl ⟨rfl, rfl⟩ (by kernel_rfl) rfl
    (fun f fn hf hfn => by
      obtain rfl : f = 5 := Option.some.inj ((show Tryd.prog.funcNamed "conch/conchlaw08.VarsReads" = some 5 by kernel_rfl).symm.trans hf) |>.symm
      obtain rfl : fn = Tryd.f5 := (Option.some.inj (Tryd.func5.symm.trans hfn)).symm
      exact ⟨by kernel_rfl, fun j t ht => by
        rw [Tryd.params5] at ht
        have hm : t ∈ [22, 48] := by simpa using Array.mem_of_getElem? ht
        have hall : ([22, 48].all fun u => !Tryd.prog.wantsStandIn u) = true := by kernel_rfl
        exact (show Tryd.prog.wantsStandIn t = false by simpa using List.all_eq_true.1 hall t hm)⟩)
    (by kernel_rfl)
#print axioms varsReads_holds

end Go.Proofs.YtbcbnoeplapblaaDoor
