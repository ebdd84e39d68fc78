/-
  WordParses holds: every text of up to 600 bytes is parsed as the document's Parse and Here parse it, with the same errors; and the chapter's examples come out; of longer texts the examples alone. No condition but what the row lists: the tables that the program lays.
-/
import Derived.Test.YtnamfjbfcbamjaaGreatDoorM21
import Derived.Test.YtnamfjbfcbamjaaGreatDoorM22
import Derived.Test.YtnamfjbfcbamjaaGreatDoorM25

/- WordParses holds: every text of up to 600 bytes is parsed as the document's Parse and Here parse it, with the same errors; and the chapter's examples come out; of longer texts the examples alone. No condition but what the row lists: the tables that the program lays. -/
namespace Go.Proofs.YtnamfjbfcbamjaaGreatDoor
open Go.ChangeShapes Go.WideShapes Go.ChangeAt Go.RowKit
open Go.ChangeMaps (open_string shut_string)

set_option maxRecDepth 20000 in
set_option maxHeartbeats 4000000 in
theorem parses_walk (s : ByteArray) (w : World) (he : WEnv w) :
    Calls Tryz.prog 3 #[.string s] w fun e w' => e = .returned (.bool true) ∧ Below w.heap.size w w' := by
  have HAW : Hid (∀ W, Below w.heap.size w W → Calls Tryz.prog 5 #[] W fun e w' => e = .returned (.bool true) ∧ Below w.heap.size w w') := hide (fun W hW => (awake_any W (he.belw hW)).mono (fun e w' ⟨h1, h2⟩ => ⟨h1, hW.trans (h2.mono hW.size)⟩))
  by_cases h6 : (600 : Int) < (s.size : Int)
  · clear he
    go_enter Tryz.func3, Tryz.ntmps3
    go_wp2_with fail
    refine (unhide HAW _ (Below.refl _ _)).mono ?_
    rintro e w2 ⟨rfl, b2⟩
    have HB2 := hide b2
    clear b2
    go_wp2
    go_ret
    exact ⟨rfl, unhide HB2⟩
  · obtain ⟨l, hl⟩ : ∃ l, l = s.data.toList := ⟨_, rfl⟩
    have hs : s = BA l := by rw [hl, BA_of]
    have hll : l.length ≤ 100000 := by rw [hl, data_len]; omega
    have HE := hide he
    have HP1 : Hid (∀ W, Below w.heap.size w W → Calls Tryz.prog 6 #[.string s] W fun e w' => ∃ v, e = .returned (.tuple #[v, .int .i64 (wrdL true 0 l).errno]) ∧ Below W.heap.size W w' ∧ WAt w' (fun k => W.heap.size ≤ k ∧ k < w'.heap.size) v (wrdL true 0 l).parts) := hide (fun W hW => by rw [hs]; exact parse_any l W (he.belw hW) hll)
    have HP2 : Hid (∀ W, Below w.heap.size w W → Calls Tryz.prog 7 #[.string s] W fun e w' => ∃ v, e = .returned (.tuple #[v, .int .i64 (wrdL true 0 l).errno]) ∧ Below W.heap.size W w' ∧ WAt w' (fun k => W.heap.size ≤ k ∧ k < w'.heap.size) v (wrdL true 0 l).parts) := hide (fun W _ => by rw [hs]; exact rparse_any l W hll)
    have HP3 : Hid (∀ W, Below w.heap.size w W → Calls Tryz.prog 8 #[.string s] W fun e w' => ∃ v, e = .returned (.tuple #[v, .int .i64 (wrdL true 5 l).errno]) ∧ Below W.heap.size W w' ∧ WAt w' (fun k => W.heap.size ≤ k ∧ k < w'.heap.size) v (wrdL true 5 l).parts) := hide (fun W hW => by rw [hs]; exact here_any l W (he.belw hW) hll)
    have HP4 : Hid (∀ W, Below w.heap.size w W → Calls Tryz.prog 9 #[.string s] W fun e w' => ∃ v, e = .returned (.tuple #[v, .int .i64 (wrdL true 5 l).errno]) ∧ Below W.heap.size W w' ∧ WAt w' (fun k => W.heap.size ≤ k ∧ k < w'.heap.size) v (wrdL true 5 l).parts) := hide (fun W _ => by rw [hs]; exact rhere_any l W hll)
    obtain ⟨e0, he0⟩ : ∃ x, x = (wrdL true 0 l).errno := ⟨_, rfl⟩
    obtain ⟨e5, he5⟩ : ∃ x, x = (wrdL true 5 l).errno := ⟨_, rfl⟩
    obtain ⟨q0, hq0⟩ : ∃ x, x = (wrdL true 0 l).parts := ⟨_, rfl⟩
    obtain ⟨q5, hq5⟩ : ∃ x, x = (wrdL true 5 l).parts := ⟨_, rfl⟩
    rw [← he0, ← hq0] at HP1 HP2
    rw [← he5, ← hq5] at HP3 HP4
    clear he hl hs hll he0 he5 hq0 hq5 HE
    go_enter Tryz.func3, Tryz.ntmps3
    go_wp2_with fail
    refine (unhide HP1 _ (Below.refl _ _)).mono ?_
    rintro e w1 ⟨v1, rfl, b1, hv1⟩
    obtain ⟨a1, c1, rfl, hq1⟩ := hv1.len
    have HB1 := hide b1
    have HV1 := hide hv1
    clear b1 hv1
    go_wp2_with fail
    refine (unhide HP2 _ (unhide HB1)).mono ?_
    rintro e w2 ⟨v2, rfl, b2, hv2⟩
    obtain ⟨a2, c2, rfl, _⟩ := hv2.len
    have HB2 := hide ((unhide HB1).trans (b2.mono (unhide HB1).size))
    have HV1b := hide ((unhide HV1).below b2 (fun _ h => h.2))
    have HV2 := hide hv2
    have hz2 := b2.size
    clear b2 hv2
    go_wp2_with fail
    refine (unhide HP3 _ (unhide HB2)).mono ?_
    rintro e w3 ⟨v3, rfl, b3, hv3⟩
    obtain ⟨a3, c3, rfl, hq3⟩ := hv3.len
    have HB3 := hide ((unhide HB2).trans (b3.mono (unhide HB2).size))
    have HV1c := hide ((unhide HV1b).below b3 (fun k h => by have := h.2; omega))
    have HV2c := hide ((unhide HV2).below b3 (fun _ h => h.2))
    have HV3 := hide hv3
    have hz3 := b3.size
    clear b3 hv3
    go_wp2_with fail
    refine (unhide HP4 _ (unhide HB3)).mono ?_
    rintro e w4 ⟨v4, rfl, b4, hv4⟩
    obtain ⟨a4, c4, rfl, _⟩ := hv4.len
    have HB4 := hide ((unhide HB3).trans (b4.mono (unhide HB3).size))
    have hz4 := b4.size
    have HS1 : Hid (∀ W, Below w4.heap.size w4 W → Calls Tryz.prog 10 #[.slice a1 q0.length c1, .slice a2 q0.length c2] W fun e w' => e = .returned (.bool true) ∧ Below W.heap.size W w') := hide (fun W hW => by
      have h1 := ((unhide HV1c).below b4 (fun k h => by have := h.2; omega)).below hW (fun k h => by have := h.2; omega)
      have h2 := ((unhide HV2c).below b4 (fun k h => by have := h.2; omega)).below hW (fun k h => by have := h.2; omega)
      have hz := hW.size
      have := rsame_any q0 q0 _ _ W _ _ h1 h2 (fun k h => by have := h.2; omega) (fun k h => by have := h.2; omega)
      rw [sameW_refl] at this
      exact this)
    have HS2 : Hid (∀ W, Below w4.heap.size w4 W → Calls Tryz.prog 10 #[.slice a3 q5.length c3, .slice a4 q5.length c4] W fun e w' => e = .returned (.bool true) ∧ Below W.heap.size W w') := hide (fun W hW => by
      have h1 := ((unhide HV3).below b4 (fun k h => by have := h.2; omega)).below hW (fun k h => by have := h.2; omega)
      have h2 := hv4.below hW (fun k h => by have := h.2; omega)
      have hz := hW.size
      have := rsame_any q5 q5 _ _ W _ _ h1 h2 (fun k h => by have := h.2; omega) (fun k h => by have := h.2; omega)
      rw [sameW_refl] at this
      exact this)
    clear b4 hv4 HV1 HV1b HV1c HV2 HV2c HV3 hz2 hz3 hz4 HP1 HP2 HP3 HP4 HB1 HB2 HB3
    go_wp2_with fail
    refine (unhide HS1 _ (Below.refl _ _)).mono ?_
    rintro e w5 ⟨rfl, b5⟩
    have HB5 := hide b5
    have HW5 := hide ((unhide HB4).trans (b5.mono (unhide HB4).size))
    clear b5
    go_wp2_with fail
    refine (unhide HS2 _ (unhide HB5)).mono ?_
    rintro e w6 ⟨rfl, b6⟩
    have HW6 := hide ((unhide HW5).trans (b6.mono (unhide HW5).size))
    clear b6
    go_wp2_with fail
    refine (unhide HAW _ (unhide HW6)).mono ?_
    rintro e w7 ⟨rfl, b7⟩
    have HW7 := hide b7
    clear b7
    go_wp2
    go_ret
    exact ⟨rfl, unhide HW7⟩

set_option maxRecDepth 100000 in
theorem wordParses_lifted (os : Os) (started : os.Started) (H : Type) (enc : TypeId × Value → H) :
    ReturnsInHanded {} Tryz.checked os 3 .any (fun w args => (Rows.wordParsesSpec.pre enc Tryz.prog Tryz.f3 [] false w args ∧ laidMetH Tryz.prog seatLaid w) ∧ sizedMet enc Tryz.prog Tryz.f3 (OpenSpec.ofChange Rows.wordParsesSpec) false w args)
      (Rows.wordParsesSpec.post enc Tryz.prog Tryz.f3 false true false false) := by
  refine law_lifted (C := Tryz.checked) (L := seatLaid) (tb := 4) own started (by kernel_rfl) Tryz.func3 laidOut rfl (read_of (by kernel_rfl)) (by kernel_rfl) Tryz.underlying4 ?_
    (ChangeSpec.witness_shaped (enc := enc) (C := Tryz.checked) (os := os) (X := fun w _ => laidMetH Tryz.prog seatLaid w) false (World.laidAll Tryz.prog os seatLaid) #[.string ⟨#[]⟩] 8 (World.laidAll_os _ _ _)
      (World.shaped_of_ZipB (by kernel_rfl) (by kernel_rfl)) (by kernel_rfl) (by kernel_rfl) (by kernel_rfl) (door_met os _)) ?_
  · intro ds hds
    rw [show Tryz.f3.params.toList.length = 1 from by kernel_rfl] at hds
    match ds, hds with
    | [d0], _ => rfl
  · intro W base args ds ps hval0 hA0 hL hsh
    have hval : ∀ (j : Nat) t v, Tryz.f3.params[j]? = some t → args[j]? = some v → Value.okWide Tryz.prog W .any base t v := hval0
    have hA : DataW.TrodAll enc Tryz.prog W 0 (fun _ => true) true Tryz.f3.params.toList args.toList ds ps := hA0
    rw [Tryz.params3] at hA hval
    obtain ⟨v0, d0, rfl, rfl, h0⟩ := trodAll_one hA
    obtain ⟨s, rfl, rfl, rfl, _⟩ := open_string Tryz.underlying9 (hval 0 9 v0 rfl rfl) h0
    exact parses_walk s W (env_of hL hsh)

theorem wordParses_row : Rows.WordParsesSaid :=
  OpenClaim.holds_of_wide 3 Tryz.f3 rfl rfl rfl rfl rfl rfl rfl ⟨rfl, rfl, rfl, rfl, rfl⟩ rfl rfl rfl rfl rfl (by kernel_rfl) Tryz.func3 (by kernel_rfl)
    (of_decide_eq_true (by kernel_rfl)) (by unfold Func.isWrapper; first | (rw [if_pos (by decide +kernel)]; kernel_rfl) | (rw [if_neg (by decide +kernel)]; exact ⟨rfl, rfl⟩))
    (fun os started H enc _ => wordParses_lifted os started H enc)

theorem wordParses_holds : Rows.WordParsesCardSaid :=
  Claim7.holds_tied_plain_at .later [] [.data, .data, .data, .pinned] true (true, "1b712cef71369220b153c8ee935d581a3dd887bc066632b0a765412cc8d83b04") false
    wordParses_row (fun _ h => by cases h) (by kernel_rfl) (fun _ h => by cases h) wordParses_row_tie rfl ⟨rfl, rfl⟩ (by kernel_rfl) rfl
    (fun f fn hf hfn => by
      obtain rfl : f = 3 := Option.some.inj ((show Tryz.prog.funcNamed "conch/conchlaw05.WordParses" = some 3 by kernel_rfl).symm.trans hf) |>.symm
      obtain rfl : fn = Tryz.f3 := (Option.some.inj (Tryz.func3.symm.trans hfn)).symm
      exact ⟨by kernel_rfl, fun j t ht => by
        rw [Tryz.params3] at ht
        have hm : t ∈ [9] := by simpa using Array.mem_of_getElem? ht
        have hall : ([9].all fun u => !Tryz.prog.wantsStandIn u) = true := by kernel_rfl
        exact (show Tryz.prog.wantsStandIn t = false by simpa using List.all_eq_true.1 hall t hm)⟩)
    (by kernel_rfl)
#print axioms wordParses_holds

end Go.Proofs.YtnamfjbfcbamjaaGreatDoor
