/-
  WordShaped holds: of what is parsed of a text of up to 600 bytes no two Lits that might be one stand behind one another, no Lit is empty but a quoted one, and nothing has a word that may have none; with an error there are no parts; and the chapter's examples come out; of longer texts the examples alone. No condition but what the row lists: the tables that the program lays.
-/
import Derived.Test.YtodcfgbcigjjfaaDoorWArgs
import Derived.Test.YtodcfgbcigjjfaaDoorWShaped
namespace Go.Proofs.YtodcfgbcigjjfaaDoor
open Go.ChangeShapes Go.WideShapes Go.ChangeAt Go.RowKit
open Go.ChangeMaps (open_string shut_string)

set_option maxRecDepth 20000 in
set_option maxHeartbeats 4000000 in
theorem shaped_walk (s : ByteArray) (w : World) (he : WEnv w) :
    Calls Tryd.prog 6 #[.string s] w fun e w' => e = .returned (.bool true) ∧ Below w.heap.size w w' := by
  have HAW : Hid (∀ W, Below w.heap.size w W → Calls Tryd.prog 8 #[] W fun e w' => e = .returned (.bool true) ∧ Below w.heap.size w w') := hide (fun W hW => (awake_any W (he.belw hW)).mono (fun e w' ⟨h1, h2⟩ => ⟨h1, hW.trans (h2.mono hW.size)⟩))
  by_cases hs : 600 < s.size
  · clear he
    go_enter Tryd.func6, Tryd.ntmps6
    go_wp2_with fail
    refine (unhide HAW _ (Below.refl _ _)).mono ?_
    rintro e w2 ⟨rfl, b2⟩
    have HB2 := hide b2
    clear b2
    go_wp2
    go_ret
    exact ⟨rfl, unhide HB2⟩
  · have HPA := hide (parse_any s.data.toList w he (by rw [data_len]; omega))
    rw [BA_of] at HPA
    have HSH := hide (sh_wrd true 0 s.data.toList)
    have HER : Hid ((wrdL true 0 s.data.toList).errno ≠ 0 → (wrdL true 0 s.data.toList).parts = []) := hide (by
      cases wrdL true 0 s.data.toList with
      | err e => intro _; rfl
      | ok ps => intro h; exact absurd rfl h)
    obtain ⟨R, hR⟩ : ∃ R, R = wrdL true 0 s.data.toList := ⟨_, rfl⟩
    rw [← hR] at HPA HSH HER
    clear hR he
    go_enter Tryd.func6, Tryd.ntmps6
    go_wp2_with fail
    refine (unhide HPA).mono ?_
    rintro e w1 ⟨v, rfl, b1, hv⟩
    have HC : Hid (Calls Tryd.prog 16 #[v] w1 fun e w' => e = .returned (.bool true) ∧ Below w.heap.size w w') := hide ((shaped_all _ _ v w1 _ (Nat.le_refl _) hv (fun k h => h.2) (unhide HSH)).mono (fun e w' ⟨h1, h2⟩ => ⟨h1, b1.trans (h2.mono b1.size)⟩))
    obtain ⟨ad, cap, rfl, hl⟩ := hv.len
    obtain ⟨er, her⟩ : ∃ er, er = R.errno := ⟨_, rfl⟩
    have hz : er ≠ 0 → R.parts.length = 0 := fun h => by rw [unhide HER (by rw [← her]; exact h)]; rfl
    rw [← her]
    clear her hv b1 HPA
    obtain ⟨n, hn⟩ : ∃ n, n = R.parts.length := ⟨_, rfl⟩
    rw [← hn] at HC hz ⊢
    clear hn hl
    by_cases h0 : er = 0
    · subst h0
      clear hz
      go_wp2_with fail
      refine (unhide HC).mono ?_
      rintro e w2 ⟨rfl, b2⟩
      have HB2 := hide b2
      clear b2
      go_wp2_with fail
      refine (unhide HAW _ (unhide HB2)).mono ?_
      rintro e w3 ⟨rfl, b3⟩
      have HB3 := hide b3
      clear b3
      go_wp2
      go_ret
      exact ⟨rfl, unhide HB3⟩
    · have hn := hz h0
      subst hn
      have he0 : (er == 0) = false := by simpa using h0
      clear hz
      go_wp2_with fail
      refine (unhide HC).mono ?_
      rintro e w2 ⟨rfl, b2⟩
      have HB2 := hide b2
      clear b2
      go_wp2_with fail
      refine (unhide HAW _ (unhide HB2)).mono ?_
      rintro e w3 ⟨rfl, b3⟩
      have HB3 := hide b3
      clear b3
      go_wp2
      go_ret
      exact ⟨rfl, unhide HB3⟩

set_option maxRecDepth 100000 in
theorem wordShaped_lifted (os : Os) (started : os.Started) (H : Type) (enc : TypeId × Value → H) :
    ReturnsInHanded {} Tryd.checked os 6 .any (fun w args => (Rows.wordShapedSpec.pre enc Tryd.prog Tryd.f6 [] false w args ∧ laidMetH Tryd.prog seatLaid w) ∧ sizedMet enc Tryd.prog Tryd.f6 (OpenSpec.ofChange Rows.wordShapedSpec) false w args)
      (Rows.wordShapedSpec.post enc Tryd.prog Tryd.f6 false true false false) := by
  refine law_lifted (C := Tryd.checked) (L := seatLaid) (tb := 4) own started (by kernel_rfl) Tryd.func6 laidOut rfl (read_of (by kernel_rfl)) (by kernel_rfl) Tryd.underlying4 ?_
    (ChangeSpec.witness_shaped (enc := enc) (C := Tryd.checked) (os := os) (X := fun w _ => laidMetH Tryd.prog seatLaid w) false (World.laidAll Tryd.prog os seatLaid) #[.string ⟨#[]⟩] 8 (World.laidAll_os _ _ _)
      (World.shaped_of_ZipB (by kernel_rfl) (by kernel_rfl)) (by kernel_rfl) (by kernel_rfl) (by kernel_rfl) (door_met os _)) ?_
  · intro ds hds
    rw [show Tryd.f6.params.toList.length = 1 from by kernel_rfl] at hds
    match ds, hds with
    | [d0], _ => rfl
  · intro W base args ds ps hval0 hA0 hL hsh
    have hval : ∀ (j : Nat) t v, Tryd.f6.params[j]? = some t → args[j]? = some v → Value.okWide Tryd.prog W .any base t v := hval0
    have hA : DataW.TrodAll enc Tryd.prog W 0 (fun _ => true) true Tryd.f6.params.toList args.toList ds ps := hA0
    rw [Tryd.params6] at hA hval
    obtain ⟨v0, d0, rfl, rfl, h0⟩ := trodAll_one hA
    obtain ⟨s, rfl, rfl, rfl, _⟩ := open_string Tryd.underlying9 (hval 0 9 v0 rfl rfl) h0
    exact shaped_walk s W (env_of hL hsh)

theorem wordShaped_row : Rows.WordShapedSaid :=
  OpenClaim.holds_of_wide 6 Tryd.f6 rfl rfl rfl rfl rfl rfl rfl ⟨rfl, rfl, rfl, rfl, rfl⟩ rfl rfl rfl rfl rfl (by kernel_rfl) Tryd.func6 (by kernel_rfl)
    (of_decide_eq_true (by kernel_rfl)) (by unfold Func.isWrapper; first | (rw [if_pos (by decide +kernel)]; kernel_rfl) | (rw [if_neg (by decide +kernel)]; exact ⟨rfl, rfl⟩))
    (fun os started H enc _ => wordShaped_lifted os started H enc)

theorem wordShaped_holds : Rows.WordShapedCardSaid :=
  Claim7.holds_tied_plain_at .later [] [.data, .data, .data, .pinned] true (true, "f6cba15e1e3cb66c60d751b05b336cfb6796e2637e537df83c9abe52e761cfa9") false
    wordShaped_row (fun _ h => by cases h) (by kernel_rfl) (fun _ h => by cases h) wordShaped_row_tie rfl ⟨rfl, rfl⟩ (by kernel_rfl) rfl
    (fun f fn hf hfn => by
      obtain rfl : f = 6 := Option.some.inj ((show Tryd.prog.funcNamed "conch/conchlaw05.WordShaped" = some 6 by kernel_rfl).symm.trans hf) |>.symm
      obtain rfl : fn = Tryd.f6 := (Option.some.inj (Tryd.func6.symm.trans hfn)).symm
      exact ⟨by kernel_rfl, fun j t ht => by
        rw [Tryd.params6] at ht
        have hm : t ∈ [9] := by simpa using Array.mem_of_getElem? ht
        have hall : ([9].all fun u => !Tryd.prog.wantsStandIn u) = true := by kernel_rfl
        exact (show Tryd.prog.wantsStandIn t = false by simpa using List.all_eq_true.1 hall t hm)⟩)
    (by kernel_rfl)
#print axioms wordShaped_holds

end Go.Proofs.YtodcfgbcigjjfaaDoor
