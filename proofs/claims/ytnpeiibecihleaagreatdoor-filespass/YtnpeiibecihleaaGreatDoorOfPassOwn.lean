/-
  FilesPass: what is written to one file, piece by piece, is read of another one, piece by piece. Over the code at the commit that the claim names, with the program's listed library tables (its card); no other condition.
-/
import Derived.Test.YtnpeiibecihleaaGreatDoorM22
import Derived.Test.YtnpeiibecihleaaGreatDoorOfPass
namespace Go.Proofs.YtnpeiibecihleaaGreatDoor
open Go.ChangeShapes Go.WideShapes Go.ChangeAt Go.RowKit

set_option maxRecDepth 100000 in
theorem filesPass_lifted (os : Os) (started : os.Started) (H : Type) (enc : TypeId × Value → H) :
    ReturnsInHanded {} Tryz.checked os 4 .any (fun w args => (Rows.filesPassSpec.pre enc Tryz.prog Tryz.f4 [] false w args ∧ laidMetH Tryz.prog seatLaid2 w) ∧ sizedMet enc Tryz.prog Tryz.f4 (OpenSpec.ofChange Rows.filesPassSpec) false w args)
      (Rows.filesPassSpec.post enc Tryz.prog Tryz.f4 false true false false) := by
  refine law_lifted (C := Tryz.checked) (L := seatLaid2) (tb := 4) own started (by kernel_rfl) Tryz.func4 laidOut rfl (read_of (by kernel_rfl)) (by kernel_rfl) Tryz.underlying4 ?_
    (ChangeSpec.witness_shaped (enc := enc) (C := Tryz.checked) (os := os) (X := fun w _ => laidMetH Tryz.prog seatLaid2 w) false (World.laidAll Tryz.prog os seatLaid2) #[.slice none 0 0, .slice none 0 0, .bool false] 8 (World.laidAll_os _ _ _)
      (World.shaped_of_ZipB (by kernel_rfl) (by kernel_rfl)) (by kernel_rfl) (by kernel_rfl) (by kernel_rfl) (door_met2 os _)) ?_
  · intro ds hds
    rw [show Tryz.f4.params.toList.length = 3 from by kernel_rfl] at hds
    match ds, hds with
    | [d0, d1, d2], _ => rfl
  · intro W base args ds ps hval0 hA0 hL hsh
    have hval : ∀ (j : Nat) t v, Tryz.f4.params[j]? = some t → args[j]? = some v → Value.okWide Tryz.prog W .any base t v := hval0
    have hA : DataW.TrodAll enc Tryz.prog W 0 (fun _ => true) true Tryz.f4.params.toList args.toList ds ps := hA0
    rw [Tryz.params4] at hA hval
    obtain ⟨v0, v1, v2, d0, d1, d2, p0, p1, p2, rfl, rfl, rfl, h0, h1, h2⟩ := trodAll_three hA
    have k0 := okWide_slice Tryz.underlying56 (hval 0 56 v0 rfl rfl)
    obtain ⟨L0, hl0, hm0⟩ := texts_of k0 h0
    have k1 := okWide_slice Tryz.underlying51 (hval 1 51 v1 rfl rfl)
    obtain ⟨L1, hl1, hm1⟩ := ints_of k1 h1
    obtain ⟨b2, rfl, rfl, rfl⟩ := open_bool Tryz.underlying4 (hval 2 4 v2 rfl rfl) h2
    exact filespass_walk v0 v1 b2 L0 L1 W (env_of hsh) hl0 hl1

theorem filesPass_row : Rows.FilesPassSaid :=
  OpenClaim.holds_of_wide 4 Tryz.f4 rfl rfl rfl rfl rfl rfl rfl ⟨rfl, rfl, rfl, rfl, rfl⟩ rfl rfl rfl rfl rfl (by kernel_rfl) Tryz.func4 (by kernel_rfl)
    (of_decide_eq_true (by kernel_rfl)) (by unfold Func.isWrapper; first | (rw [if_pos (by decide +kernel)]; kernel_rfl) | (rw [if_neg (by decide +kernel)]; exact ⟨rfl, rfl⟩))
    (fun os started H enc _ => filesPass_lifted os started H enc)

theorem filesPass_holds : Rows.FilesPassCardSaid :=
  Claim7.holds_tied_plain_at .later [] [.data, .pinned] true (true, "bd1c5b44bc731febe5f4426e5055139de030a297a6e78ab0519bf356b14ca975") false
    filesPass_row (fun _ h => by cases h) (by kernel_rfl) (fun _ h => by cases h) filesPass_row_tie rfl ⟨rfl, rfl⟩ (by kernel_rfl) rfl
    (fun f fn hf hfn => by
      obtain rfl : f = 4 := Option.some.inj ((show Tryz.prog.funcNamed "conch/conchlaw14.FilesPass" = some 4 by kernel_rfl).symm.trans hf) |>.symm
      obtain rfl : fn = Tryz.f4 := (Option.some.inj (Tryz.func4.symm.trans hfn)).symm
      exact ⟨by kernel_rfl, fun j t ht => by
        rw [Tryz.params4] at ht
        have hm : t ∈ [56, 51, 4] := by simpa using Array.mem_of_getElem? ht
        have hall : ([56, 51, 4].all fun u => !Tryz.prog.wantsStandIn u) = true := by kernel_rfl
        exact (show Tryz.prog.wantsStandIn t = false by simpa using List.all_eq_true.1 hall t hm)⟩)
    (by kernel_rfl)
#print axioms filesPass_holds

end Go.Proofs.YtnpeiibecihleaaGreatDoor
