/-
  FilesEnds: two files that are opened to Append put their bytes one behind the other. Over the code at the commit that the claim names, with the program's listed library tables (its card); no other condition.
-/
import Derived.Test.YtnpeiibecihleaaGreatDoorM22
import Derived.Test.YtnpeiibecihleaaGreatDoorOfEnds
namespace Go.Proofs.YtnpeiibecihleaaGreatDoor
open Go.ChangeShapes Go.WideShapes Go.ChangeAt Go.RowKit

set_option maxRecDepth 100000 in
theorem filesEnds_lifted (os : Os) (started : os.Started) (H : Type) (enc : TypeId × Value → H) :
    ReturnsInHanded {} Tryz.checked os 6 .any (fun w args => (Rows.filesEndsSpec.pre enc Tryz.prog Tryz.f6 [] false w args ∧ laidMetH Tryz.prog seatLaid2 w) ∧ sizedMet enc Tryz.prog Tryz.f6 (OpenSpec.ofChange Rows.filesEndsSpec) false w args)
      (Rows.filesEndsSpec.post enc Tryz.prog Tryz.f6 false true false false) := by
  refine law_lifted (C := Tryz.checked) (L := seatLaid2) (tb := 4) own started (by kernel_rfl) Tryz.func6 laidOut rfl (read_of (by kernel_rfl)) (by kernel_rfl) Tryz.underlying4 ?_
    (ChangeSpec.witness_shaped (enc := enc) (C := Tryz.checked) (os := os) (X := fun w _ => laidMetH Tryz.prog seatLaid2 w) false (World.laidAll Tryz.prog os seatLaid2) #[.slice none 0 0, .slice none 0 0] 8 (World.laidAll_os _ _ _)
      (World.shaped_of_ZipB (by kernel_rfl) (by kernel_rfl)) (by kernel_rfl) (by kernel_rfl) (by kernel_rfl) (door_met2 os _)) ?_
  · intro ds hds
    rw [show Tryz.f6.params.toList.length = 2 from by kernel_rfl] at hds
    match ds, hds with
    | [d0, d1], _ => rfl
  · intro W base args ds ps hval0 hA0 hL hsh
    have hval : ∀ (j : Nat) t v, Tryz.f6.params[j]? = some t → args[j]? = some v → Value.okWide Tryz.prog W .any base t v := hval0
    have hA : DataW.TrodAll enc Tryz.prog W 0 (fun _ => true) true Tryz.f6.params.toList args.toList ds ps := hA0
    rw [Tryz.params6] at hA hval
    obtain ⟨v0, v1, d0, d1, p0, p1, rfl, rfl, rfl, h0, h1⟩ := trodAll_two hA
    have k0 := okWide_slice Tryz.underlying56 (hval 0 56 v0 rfl rfl)
    obtain ⟨L0, hl0, hm0⟩ := texts_of k0 h0
    have k1 := okWide_slice Tryz.underlying67 (hval 1 67 v1 rfl rfl)
    obtain ⟨L1, hl1, hm1⟩ := bools_of k1 h1
    exact filesends_walk v0 v1 L0 L1 W (env_of hsh) hl0 hl1

theorem filesEnds_row : Rows.FilesEndsSaid :=
  OpenClaim.holds_of_wide 6 Tryz.f6 rfl rfl rfl rfl rfl rfl rfl ⟨rfl, rfl, rfl, rfl, rfl⟩ rfl rfl rfl rfl rfl (by kernel_rfl) Tryz.func6 (by kernel_rfl)
    (of_decide_eq_true (by kernel_rfl)) (by unfold Func.isWrapper; first | (rw [if_pos (by decide +kernel)]; kernel_rfl) | (rw [if_neg (by decide +kernel)]; exact ⟨rfl, rfl⟩))
    (fun os started H enc _ => filesEnds_lifted os started H enc)

theorem filesEnds_holds : Rows.FilesEndsCardSaid :=
  Claim7.holds_tied_plain_at .later [] [.data, .pinned] true (true, "bd1c5b44bc731febe5f4426e5055139de030a297a6e78ab0519bf356b14ca975") false
    filesEnds_row (fun _ h => by cases h) (by kernel_rfl) (fun _ h => by cases h) filesEnds_row_tie rfl ⟨rfl, rfl⟩ (by kernel_rfl) rfl
    (fun f fn hf hfn => by
      obtain rfl : f = 6 := Option.some.inj ((show Tryz.prog.funcNamed "conch/conchlaw14.FilesEnds" = some 6 by kernel_rfl).symm.trans hf) |>.symm
      obtain rfl : fn = Tryz.f6 := (Option.some.inj (Tryz.func6.symm.trans hfn)).symm
      exact ⟨by kernel_rfl, fun j t ht => by
        rw [Tryz.params6] at ht
        have hm : t ∈ [56, 67] := by simpa using Array.mem_of_getElem? ht
        have hall : ([56, 67].all fun u => !Tryz.prog.wantsStandIn u) = true := by kernel_rfl
        exact (show Tryz.prog.wantsStandIn t = false by simpa using List.all_eq_true.1 hall t hm)⟩)
    (by kernel_rfl)
#print axioms filesEnds_holds

end Go.Proofs.YtnpeiibecihleaaGreatDoor
