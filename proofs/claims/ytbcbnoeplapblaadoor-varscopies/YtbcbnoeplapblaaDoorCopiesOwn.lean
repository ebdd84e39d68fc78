/-
  VarsCopies holds: whatever is called on a Vars and then on its copy, or on the copy's original (up to 60 calls each, texts of up to 200 bytes), the one that is left alone keeps its variables, its arguments and its zero name, also where the caller overwrites the arguments that it was handed; the chapter's examples come out; of others the examples alone. No condition but what the row lists: the tables that the program lays.
-/
import Derived.Test.YtbcbnoeplapblaaDoorVStart
import Derived.Test.YtbcbnoeplapblaaDoorVCopies
namespace Go.Proofs.YtbcbnoeplapblaaDoor
open Go.ChangeShapes Go.WideShapes Go.ChangeAt Go.RowKit
open Go.ChangeMaps (open_string shut_string)

set_option maxRecDepth 100000 in
theorem varsCopies_lifted (os : Os) (started : os.Started) (H : Type) (enc : TypeId × Value → H) :
    ReturnsInHanded {} Tryd.checked os 6 .any (fun w args => (Rows.varsCopiesSpec.pre enc Tryd.prog Tryd.f6 [] false w args ∧ laidMetH Tryd.prog seatLaid w) ∧ sizedMet enc Tryd.prog Tryd.f6 (OpenSpec.ofChange Rows.varsCopiesSpec) false w args)
      (Rows.varsCopiesSpec.post enc Tryd.prog Tryd.f6 false true false false) := by
  refine law_lifted (C := Tryd.checked) (L := seatLaid) (tb := 4) own started (by kernel_rfl) Tryd.func6 laidOut rfl (read_of (by kernel_rfl)) (by kernel_rfl) Tryd.underlying4 ?_
    (ChangeSpec.witness_shaped (enc := enc) (C := Tryd.checked) (os := os) (X := fun w _ => laidMetH Tryd.prog seatLaid w) false (World.laidAll Tryd.prog os seatLaid) #[.slice none 0 0, .slice none 0 0, .bool false] 8 (World.laidAll_os _ _ _)
      (World.shaped_of_ZipB (by kernel_rfl) (by kernel_rfl)) (by kernel_rfl) (by kernel_rfl) (by kernel_rfl) (door_met os _)) ?_
  · intro ds hds
    rw [show Tryd.f6.params.toList.length = 3 from by kernel_rfl] at hds
    match ds, hds with
    | [d0, d1, d2], _ => rfl
  · intro W base args ds ps hval0 hA0 hL hsh
    have hval : ∀ (j : Nat) t v, Tryd.f6.params[j]? = some t → args[j]? = some v → Value.okWide Tryd.prog W .any base t v := hval0
    have hA : DataW.TrodAll enc Tryd.prog W 0 (fun _ => true) true Tryd.f6.params.toList args.toList ds ps := hA0
    rw [Tryd.params6] at hA hval
    obtain ⟨v0, v1, v2, d0, d1, d2, p0, p1, p2, rfl, rfl, rfl, h0, h1, h2⟩ := trodAll_three hA
    have k0 := okWide_slice Tryd.underlying22 (hval 0 22 v0 rfl rfl)
    obtain ⟨L0, hl0⟩ := ops_of k0 h0
    have k1 := okWide_slice Tryd.underlying22 (hval 1 22 v1 rfl rfl)
    obtain ⟨L1, hl1⟩ := ops_of k1 h1
    obtain ⟨b2, rfl, rfl, rfl⟩ := open_bool Tryd.underlying4 (hval 2 4 v2 rfl rfl) h2
    exact copies_walk v0 v1 L0 L1 b2 W hl0 hl1

theorem varsCopies_row : Rows.VarsCopiesSaid :=
  OpenClaim.holds_of_wide 6 Tryd.f6 rfl rfl rfl rfl rfl rfl rfl ⟨rfl, rfl, rfl, rfl, rfl⟩ rfl rfl rfl rfl rfl (by kernel_rfl) Tryd.func6 (by kernel_rfl)
    (of_decide_eq_true (by kernel_rfl)) (by unfold Func.isWrapper; first | (rw [if_pos (by decide +kernel)]; kernel_rfl) | (rw [if_neg (by decide +kernel)]; exact ⟨rfl, rfl⟩))
    (fun os started H enc _ => varsCopies_lifted os started H enc)

theorem varsCopies_holds : Rows.VarsCopiesCardSaid :=
  Claim7.holds_tied_plain_at .later [] [.data, .data, .data] true (true, "98e346b5e83dd4da7e01dc44aa70d4fc3de72d233b322d51126da0a6d7cacf60") true
    varsCopies_row (fun _ h => by cases h) (by kernel_rfl) (fun _ h => by cases h) varsCopies_row_tie rfl ⟨rfl, rfl⟩ (by kernel_rfl) rfl
    (fun f fn hf hfn => by
      obtain rfl : f = 6 := Option.some.inj ((show Tryd.prog.funcNamed "conch/conchlaw08.VarsCopies" = some 6 by kernel_rfl).symm.trans hf) |>.symm
      obtain rfl : fn = Tryd.f6 := (Option.some.inj (Tryd.func6.symm.trans hfn)).symm
      exact ⟨by kernel_rfl, fun j t ht => by
        rw [Tryd.params6] at ht
        have hm : t ∈ [22, 22, 4] := by simpa using Array.mem_of_getElem? ht
        have hall : ([22, 22, 4].all fun u => !Tryd.prog.wantsStandIn u) = true := by kernel_rfl
        exact (show Tryd.prog.wantsStandIn t = false by simpa using List.all_eq_true.1 hall t hm)⟩)
    (by kernel_rfl)
#print axioms varsCopies_holds

end Go.Proofs.YtbcbnoeplapblaaDoor
