/-
  ArithValues holds: for every text the program's Value answers as the document's, and the chapter's examples come out; no condition beyond the card's own (the listed library variables, tied to the program's text).
-/
import Derived.Test.YtlbpeknncakfeaaGreatDoorStart
import Derived.Test.YtlbpeknncakfeaaGreatDoorValPlain
namespace Go.Proofs.YtlbpeknncakfeaaGreatDoor
open Go.ChangeShapes Go.WideShapes Go.ChangeAt Go.RowKit
open Go.ChangeMaps (open_string)

set_option maxRecDepth 20000 in
set_option maxHeartbeats 2000000 in
theorem values_walk (s : ByteArray) (w : World) (he : Env w) : Calls Tryz.prog 3 #[.string s] w fun e w' => e = .returned (.bool true) ∧ Below w.heap.size w w' := by
  have HE := hide he
  clear he
  by_cases h5 : 500 < s.size
  · have h5' : (500 : Int) < (s.size : Int) := by omega
    go_enter Tryz.func3, Tryz.ntmps3
    go_wp2_with fail
    refine (awake_any w (unhide HE)).mono ?_
    rintro e w1 ⟨rfl, b1⟩
    go_wp2
    go_ret
    exact ⟨rfl, b1⟩
  · have h5' : ¬ (500 : Int) < (s.size : Int) := by omega
    have hv := value_any s w (by omega) (unhide HE).glob
    have hr := fun w' => rvalue_any s w' (by omega)
    rw [valS_eq] at hr
    rcases hq : valS s with _ | n
    all_goals
      rw [hq] at hv hr
      have HV := hide hv
      have HR := hide hr
      clear hv hr hq
      go_enter Tryz.func3, Tryz.ntmps3
      go_wp2_with fail
      refine (unhide HV).mono ?_
      rintro e w1 ⟨h1, b1⟩
      cases h1
      have HE1 := hide ((unhide HE).below b1)
      have B1 := hide b1
      clear b1
      go_wp2_with fail
      refine (unhide HR w1).mono ?_
      rintro e w2 ⟨h2, hx2⟩
      cases h2
      have hx3 := hx2.symm
      subst hx3
      clear hx2
      go_wp2_with fail
      refine (awake_any w1 (unhide HE1)).mono ?_
      rintro e w3 ⟨rfl, b3⟩
      have B3 := hide b3
      clear b3
      go_wp2
      go_ret
      exact ⟨rfl, (unhide B1).trans ((unhide B3).mono (unhide B1).size)⟩

set_option maxRecDepth 100000 in
theorem arithValues_lifted (os : Os) (started : os.Started) (H : Type) (enc : TypeId × Value → H) :
    ReturnsInHanded {} Tryz.checked os 3 .any (fun w args => (Rows.arithValuesSpec.pre enc Tryz.prog Tryz.f3 [] false w args ∧ laidMetH Tryz.prog seatLaid w) ∧ sizedMet enc Tryz.prog Tryz.f3 (OpenSpec.ofChange Rows.arithValuesSpec) false w args)
      (Rows.arithValuesSpec.post enc Tryz.prog Tryz.f3 false true false false) := by
  refine law_lifted (C := Tryz.checked) (L := seatLaid) (tb := 4) own started (by kernel_rfl) Tryz.func3 laidOut rfl (read_of (by kernel_rfl)) (by kernel_rfl) Tryz.underlying4 ?_
    (ChangeSpec.witness_shaped (enc := enc) (C := Tryz.checked) (os := os) (X := fun w _ => laidMetH Tryz.prog seatLaid w) false (World.laidAll Tryz.prog os seatLaid) #[.string ⟨#[]⟩] 8 (World.laidAll_os _ _ _)
      (World.shaped_of_ZipB (by kernel_rfl) (by kernel_rfl)) (by kernel_rfl) (by kernel_rfl) (by kernel_rfl) (door_met os _)) ?_
  · intro ds hds
    rw [show Tryz.f3.params.toList.length = 1 from by kernel_rfl] at hds
    match ds, hds with
    | [d0], _ => rfl
  · intro W base args ds ps hval0 hA0 hL hsh
    have hval : ∀ (j : Nat) t v, Tryz.f3.params[j]? = some t → args[j]? = some v → Value.okWide Tryz.prog W .any base t v := hval0
    have hA : DataW.TrodAll enc Tryz.prog W 0 (fun _ => true) true Tryz.f3.params.toList args.toList ds ps := hA0
    rw [Tryz.params3] at hA hval
    obtain ⟨v0, d0, rfl, rfl, h0⟩ := trodAll_one hA
    obtain ⟨s, rfl, rfl, rfl, _⟩ := open_string Tryz.underlying9 (hval 0 9 v0 rfl rfl) h0
    exact values_walk s W (env_of hL hsh)

theorem arithValues_row : Rows.ArithValuesSaid :=
  OpenClaim.holds_of_wide 3 Tryz.f3 rfl rfl rfl rfl rfl rfl rfl ⟨rfl, rfl, rfl, rfl, rfl⟩ rfl rfl rfl rfl rfl (by kernel_rfl) Tryz.func3 (by kernel_rfl)
    (of_decide_eq_true (by kernel_rfl)) (by unfold Func.isWrapper; first | (rw [if_pos (by decide +kernel)]; kernel_rfl) | (rw [if_neg (by decide +kernel)]; exact ⟨rfl, rfl⟩))
    (fun os started H enc _ => arithValues_lifted os started H enc)

theorem arithValues_holds : Rows.ArithValuesCardSaid :=
  Claim7.holds_tied_plain_at .later [] [.data, .data, .data, .data, .sentinel, .sentinel, .pinned] true (true, "a5c63b735f0707980e6a6b49a9b9466cb4e0ad6100d085c50bc295af36e29eb0") true
    arithValues_row (fun _ h => by cases h) (by kernel_rfl) (fun _ h => by cases h) arithValues_row_tie rfl ⟨rfl, rfl⟩ (by kernel_rfl) rfl
    (fun f fn hf hfn => by
      obtain rfl : f = 3 := Option.some.inj ((show Tryz.prog.funcNamed "conch/conchlaw03.ArithValues" = some 3 by kernel_rfl).symm.trans hf) |>.symm
      obtain rfl : fn = Tryz.f3 := (Option.some.inj (Tryz.func3.symm.trans hfn)).symm
      exact ⟨by kernel_rfl, fun j t ht => by
        rw [Tryz.params3] at ht
        have hm : t ∈ [9] := by simpa using Array.mem_of_getElem? ht
        have hall : ([9].all fun u => !Tryz.prog.wantsStandIn u) = true := by kernel_rfl
        exact (show Tryz.prog.wantsStandIn t = false by simpa using List.all_eq_true.1 hall t hm)⟩)
    (by kernel_rfl)
#print axioms arithValues_holds

end Go.Proofs.YtlbpeknncakfeaaGreatDoor
