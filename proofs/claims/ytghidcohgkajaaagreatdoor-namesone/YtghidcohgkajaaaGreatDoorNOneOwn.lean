/-
  NamesOne holds: behind any calls (up to 40, of up to 400 bytes) a call that makes a file or a directory, or takes a name away, in the root changes no other name there, and with an error nothing changes. No condition but what the row lists.
-/
import Derived.Test.YtghidcohgkajaaaGreatDoorM23
import Derived.Test.YtghidcohgkajaaaGreatDoorNOneL
import Derived.Test.YtghidcohgkajaaaGreatDoorNLink
namespace Go.Proofs.YtghidcohgkajaaaGreatDoor
open Go.ChangeShapes Go.WideShapes Go.ChangeAt Go.RowKit
open Go.ChangeMaps (open_string)

set_option maxRecDepth 100000 in
theorem namesOne_lifted (os : Os) (started : os.Started) (H : Type) (enc : TypeId × Value → H) :
    ReturnsInHanded {} Tryz.checked os 6 .any (fun w args => (Rows.namesOneSpec.pre enc Tryz.prog Tryz.f6 [] false w args ∧ laidMetH Tryz.prog seatLaid w) ∧ sizedMet enc Tryz.prog Tryz.f6 (OpenSpec.ofChange Rows.namesOneSpec) false w args)
      (Rows.namesOneSpec.post enc Tryz.prog Tryz.f6 false true false false) := by
  refine law_lifted (C := Tryz.checked) (L := seatLaid) (tb := 4) own started (by kernel_rfl) Tryz.func6 laidOut rfl (read_of (by kernel_rfl)) (by kernel_rfl) Tryz.underlying4 ?_
    (ChangeSpec.witness_shaped (enc := enc) (C := Tryz.checked) (os := os) (X := fun w _ => laidMetH Tryz.prog seatLaid w) false (World.laidAll Tryz.prog os seatLaid) #[.slice none 0 0, .agg #[.int .i64 0, .int .i64 0, .string ⟨#[]⟩, .string ⟨#[]⟩, .int .i64 0]] 8 (World.laidAll_os _ _ _)
      (World.shaped_of_ZipB (by kernel_rfl) (by kernel_rfl)) (by kernel_rfl) (by kernel_rfl) (by kernel_rfl) (door_met os _)) ?_
  · intro ds hds
    rw [show Tryz.f6.params.toList.length = 2 from by kernel_rfl] at hds
    match ds, hds with
    | [d0, d1], _ => rfl
  · intro W base args ds ps hval0 hA0 hL hsh
    have hval : ∀ (j : Nat) t v, Tryz.f6.params[j]? = some t → args[j]? = some v → Value.okWide Tryz.prog W .any base t v := hval0
    have hA : DataW.TrodAll enc Tryz.prog W 0 (fun _ => true) true Tryz.f6.params.toList args.toList ds ps := hA0
    rw [Tryz.params6] at hA hval
    obtain ⟨v0, v1, d0, d1, p0, p1, rfl, rfl, rfl, h0, h1⟩ := trodAll_two hA
    have k0 := okWide_slice Tryz.underlying23 (hval 0 23 v0 rfl rfl)
    obtain ⟨L0, hl0, hm0⟩ := opsrow_of k0 h0
    obtain ⟨o1, rfl, ho1⟩ := op_of h1 (okWide_struct Tryz.underlying33 (hval 1 33 v1 rfl rfl))
    exact one_walk v0 L0 o1 W (env_of hsh) (pow_of hL) hl0 ho1 link_any

theorem namesOne_row : Rows.NamesOneSaid :=
  OpenClaim.holds_of_wide 6 Tryz.f6 rfl rfl rfl rfl rfl rfl rfl ⟨rfl, rfl, rfl, rfl, rfl⟩ rfl rfl rfl rfl rfl (by kernel_rfl) Tryz.func6 (by kernel_rfl)
    (of_decide_eq_true (by kernel_rfl)) (by unfold Func.isWrapper; first | (rw [if_pos (by decide +kernel)]; kernel_rfl) | (rw [if_neg (by decide +kernel)]; exact ⟨rfl, rfl⟩))
    (fun os started H enc _ => namesOne_lifted os started H enc)

theorem namesOne_holds : Rows.NamesOneCardSaid :=
  Claim7.holds_tied_plain_at .later [] [.data, .data, .data, .data, .pinned] true (true, "84ce103cce5f20ed29a5528eac132c353ec37ae240d9203f8616242578186c5e") true
    namesOne_row (fun _ h => by cases h) (by kernel_rfl) (fun _ h => by cases h) namesOne_row_tie rfl ⟨rfl, rfl⟩ (by kernel_rfl) rfl
    (fun f fn hf hfn => by
      obtain rfl : f = 6 := Option.some.inj ((show Tryz.prog.funcNamed "conch/conchlaw13.NamesOne" = some 6 by kernel_rfl).symm.trans hf) |>.symm
      obtain rfl : fn = Tryz.f6 := (Option.some.inj (Tryz.func6.symm.trans hfn)).symm
      exact ⟨by kernel_rfl, fun j t ht => by
        rw [Tryz.params6] at ht
        have hm : t ∈ [23, 33] := by simpa using Array.mem_of_getElem? ht
        have hall : ([23, 33].all fun u => !Tryz.prog.wantsStandIn u) = true := by kernel_rfl
        exact (show Tryz.prog.wantsStandIn t = false by simpa using List.all_eq_true.1 hall t hm)⟩)
    (by kernel_rfl)
#print axioms namesOne_holds

end Go.Proofs.YtghidcohgkajaaaGreatDoor
