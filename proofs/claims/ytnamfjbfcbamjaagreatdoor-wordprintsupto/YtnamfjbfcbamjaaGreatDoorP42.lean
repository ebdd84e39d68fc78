/-
  WordPrints, of words that hold up to 1048576 values and letters: Print, PrintHere and Literal answer as the document's do, and the chapter's examples hold.
  Conditions: the law's own bound (its Size up to 600), and the second form's bound on what is handed in.
-/
import Derived.Test.YtnamfjbfcbamjaaGreatDoorP38
import Derived.Test.YtnamfjbfcbamjaaGreatDoorP39
import Derived.Test.YtnamfjbfcbamjaaGreatDoorP41
import Derived.Deep.DeepHandedRow
import Derived.Deep.QuietTactic
import Derived.BigQuiet
/- WordPrints, of words that hold up to 1048576 values and letters: Print, PrintHere and Literal answer as the document's do, and the chapter's examples hold.
  Conditions: the law's own bound (its Size up to 600), and the second form's bound on what is handed in. -/
namespace Go.Proofs.YtnamfjbfcbamjaaGreatDoor
open Go.ChangeShapes Go.WideShapes Go.ChangeAt Go.RowKit
set_option maxRecDepth 20000 in
set_option maxHeartbeats 8000000 in
theorem prints_walk (v : Value) (l : List Prt) (W : World) (he : WEnv W) (hv : WAt W (fun k => k < W.heap.size) v l) (hc : cntL l ≤ 1048576) :
    Calls Tryz.prog 4 #[v] W fun e w' => e = .returned (.bool true) ∧ Below W.heap.size W w' := by
  have h2w := he.two
  obtain ⟨va, vc, rfl, hlen⟩ := hv.len
  have HSZ := hide (size_all _ l _ W _ (Nat.le_refl _) hv)
  have HAW : Hid (∀ w1, Below W.heap.size W w1 → Calls Tryz.prog 5 #[] w1 fun e w' => e = .returned (.bool true) ∧ Below W.heap.size W w') := hide (fun w1 hb => (awake_any w1 (he.below (hb.mono (by omega)))).mono (fun e w' ⟨h1, h2⟩ => ⟨h1, hb.trans (h2.mono hb.size)⟩))
  obtain ⟨n, hn⟩ : ∃ n, szL 0 l = n := ⟨_, rfl⟩
  by_cases h6 : n ≤ 600
  · have hz : tszL l ≤ 600 := by
      have := szL_is l 0 (by omega) (by omega) (by omega)
      omega
    have hA : ∀ w1, Below W.heap.size W w1 → ∀ j, j < W.heap.size → j < w1.heap.size := fun w1 hb j hj => Nat.lt_of_lt_of_le hj hb.size
    have HV : Hid (∀ w1, Below W.heap.size W w1 → WAt w1 (fun k => k < W.heap.size) (.slice va l.length vc) l) := hide (fun w1 hb => hv.below hb (fun _ h => h))
    have hl0 : (wrdT 0 l).length ≤ 10000 := by have := wrdT_len 0 l; omega
    have hl3 : (wrdT 3 l).length ≤ 10000 := by have := wrdT_len 3 l; omega
    obtain ⟨R0, hR0⟩ : ∃ R, prnL 0 l (wrdT 0 l) = R := ⟨_, rfl⟩
    obtain ⟨R3, hR3⟩ : ∃ R, prnL 5 l (wrdT 3 l) = R := ⟨_, rfl⟩
    obtain ⟨RL, hRL⟩ : ∃ R, litR l = R := ⟨_, rfl⟩
    have H1 : Hid (∀ w1, Below W.heap.size W w1 → Calls Tryz.prog 12 #[.slice va l.length vc] w1 fun e w' => e = .returned (.tuple #[.string (BA R0.1), .int .i64 R0.2]) ∧ Below W.heap.size W w') := hide (fun w1 hb => by
      have := print_0 l _ _ w1 (he.below (hb.mono (by omega))) (unhide HV w1 hb) (hA w1 hb) hl0
      rw [hR0] at this
      exact this.mono (fun e w' ⟨h1, h2⟩ => ⟨h1, hb.trans (h2.mono hb.size)⟩))
    have H2 : Hid (∀ w1, Below W.heap.size W w1 → Calls Tryz.prog 13 #[.slice va l.length vc] w1 fun e w' => e = .returned (.tuple #[.string (BA R0.1), .int .i64 R0.2]) ∧ Below W.heap.size W w') := hide (fun w1 hb => by
      have := rprint_0 l _ _ w1 (unhide HV w1 hb) (hA w1 hb) (by omega)
      rw [hR0] at this
      exact this.mono (fun e w' ⟨h1, h2⟩ => ⟨h1, hb.trans (h2.mono hb.size)⟩))
    have H3 : Hid (∀ w1, Below W.heap.size W w1 → Calls Tryz.prog 14 #[.slice va l.length vc] w1 fun e w' => e = .returned (.tuple #[.string (BA R3.1), .int .i64 R3.2]) ∧ Below W.heap.size W w') := hide (fun w1 hb => by
      have := print_3 l _ _ w1 (he.below (hb.mono (by omega))) (unhide HV w1 hb) (hA w1 hb) hl3
      rw [hR3] at this
      exact this.mono (fun e w' ⟨h1, h2⟩ => ⟨h1, hb.trans (h2.mono hb.size)⟩))
    have H4 : Hid (∀ w1, Below W.heap.size W w1 → Calls Tryz.prog 15 #[.slice va l.length vc] w1 fun e w' => e = .returned (.tuple #[.string (BA R3.1), .int .i64 R3.2]) ∧ Below W.heap.size W w') := hide (fun w1 hb => by
      have := rprint_3 l _ _ w1 (unhide HV w1 hb) (hA w1 hb) (by omega)
      rw [hR3] at this
      exact this.mono (fun e w' ⟨h1, h2⟩ => ⟨h1, hb.trans (h2.mono hb.size)⟩))
    have H5 : Hid (∀ w1, Below W.heap.size W w1 → Calls Tryz.prog 16 #[.slice va l.length vc] w1 fun e w' => e = .returned (.tuple #[.string (BA RL.1), .bool RL.2]) ∧ Below W.heap.size W w') := hide (fun w1 hb => by
      have := literal_any l _ _ w1 (unhide HV w1 hb) (hA w1 hb) (by omega)
      rw [hRL] at this
      exact this.mono (fun e w' ⟨h1, h2⟩ => ⟨h1, hb.trans (h2.mono hb.size)⟩))
    have H6 : Hid (∀ w1, Below W.heap.size W w1 → Calls Tryz.prog 17 #[.slice va l.length vc] w1 fun e w' => e = .returned (.tuple #[.string (BA RL.1), .bool RL.2]) ∧ Below W.heap.size W w') := hide (fun w1 hb => by
      have := rliteral_any l _ _ w1 (unhide HV w1 hb) (by omega)
      rw [hRL] at this
      exact this.mono (fun e w' ⟨h1, h2⟩ => ⟨h1, by rw [h2]; exact hb⟩))
    rw [hn] at HSZ
    have hni : ¬ 600 < n := by omega
    obtain ⟨s0, e0⟩ := R0
    obtain ⟨s3, e3⟩ := R3
    obtain ⟨sL, bL⟩ := RL
    clear he hv hA hn hl0 hl3 hR0 hR3 hRL hc h6 hz HV
    go_enter Tryz.func4, Tryz.ntmps4
    go_wp2_with fail
    refine (unhide HSZ).mono ?_
    rintro e w0 ⟨rfl, m, hm⟩
    have HB0 : Hid (Below W.heap.size W w0) := hide (by rw [hm]; exact below_drew W m)
    clear hm
    go_wp2_with fail
    refine (unhide H1 _ (unhide HB0)).mono ?_
    rintro e w1 ⟨rfl, b1⟩
    have HB1 := hide b1
    clear b1
    go_wp2_with fail
    refine (unhide H2 _ (unhide HB1)).mono ?_
    rintro e w2 ⟨rfl, b2⟩
    have HB2 := hide b2
    clear b2
    go_wp2_with fail
    refine (unhide H3 _ (unhide HB2)).mono ?_
    rintro e w3 ⟨rfl, b3⟩
    have HB3 := hide b3
    clear b3
    go_wp2_with fail
    refine (unhide H4 _ (unhide HB3)).mono ?_
    rintro e w4 ⟨rfl, b4⟩
    have HB4 := hide b4
    clear b4
    go_wp2_with fail
    refine (unhide H5 _ (unhide HB4)).mono ?_
    rintro e w5 ⟨rfl, b5⟩
    have HB5 := hide b5
    clear b5
    go_wp2_with fail
    refine (unhide H6 _ (unhide HB5)).mono ?_
    rintro e w6 ⟨rfl, b6⟩
    have HB6 := hide b6
    clear b6
    go_wp2_with fail
    refine (unhide HAW _ (unhide HB6)).mono ?_
    rintro e w7 ⟨rfl, b7⟩
    have HB7 := hide b7
    clear b7
    go_wp2
    go_ret
    exact ⟨rfl, unhide HB7⟩
  · rw [hn] at HSZ
    have hni : 600 < n := by omega
    clear he hv hn hc h6
    go_enter Tryz.func4, Tryz.ntmps4
    go_wp2_with fail
    refine (unhide HSZ).mono ?_
    rintro e w0 ⟨rfl, m, hm⟩
    have HB0 : Hid (Below W.heap.size W w0) := hide (by rw [hm]; exact below_drew W m)
    clear hm
    go_wp2_with fail
    refine (unhide HAW _ (unhide HB0)).mono ?_
    rintro e w7 ⟨rfl, b7⟩
    have HB7 := hide b7
    clear b7
    go_wp2
    go_ret
    exact ⟨rfl, unhide HB7⟩
theorem bulk_of {H : Type} {d : DataW H} (hk : Rows.uptoSmall H ([d] ++ []) = true) : Rows.uptoBulk d ≤ 1048576 := by
  have h := of_decide_eq_true hk
  simp only [List.append_nil, Rows.uptoBulkAll] at h
  omega
theorem reads_w (os : Os) {H : Type} (enc : TypeId × Value → H) : ∃ places, DataW.whole enc Tryz.prog ((World.laidAll Tryz.prog os seatLaid).forCall (fun _ _ => 0) ⟨#[], #[.slice none 0 0], []⟩).memory Tryz.f4.params.toList Rows.wordPrintsSpec.vars false #[Value.slice none 0 0].toList 8 = some ([.nil], [], places) :=
  ⟨[], by kernel_rfl⟩
theorem laid_w (os : Os) : laidMet Tryz.prog Rows.wordPrintsUptoRow.laid ((World.laidAll Tryz.prog os seatLaid).forCall (fun _ _ => 0) ⟨#[], #[.slice none 0 0], []⟩).memory := laidMet_laidAll _ (by kernel_rfl) (by kernel_rfl)
set_option maxRecDepth 100000 in
theorem wordPrints_upto (os : Os) (started : os.Started) (H : Type) (enc : TypeId × Value → H) (F : Stop.Interp) :
    ReturnsInHanded {} Tryz.checked os 4 .any ((Rows.OpenSpec.upto Rows.wordPrintsSpec).preRow enc Tryz.prog Tryz.f4 Rows.wordPrintsUptoRow.domain false Rows.wordPrintsUptoRow.laid) (((Rows.OpenSpec.upto Rows.wordPrintsSpec).at F).post enc Tryz.prog Tryz.f4 false true false false) := by
  obtain ⟨places, hx⟩ := reads_w os enc
  refine returnsInHanded_of_row (C := Tryz.checked) (s := Rows.OpenSpec.upto Rows.wordPrintsSpec) own started (by kernel_rfl) Tryz.func4
    (witness_row_at (enc := enc) (C := Tryz.checked) false (World.laidAll Tryz.prog os seatLaid) #[.slice none 0 0] (World.laidAll_os _ _ _) (by kernel_rfl) (by kernel_rfl) (by kernel_rfl)
      (OpenSpec.preRow_of_cond 8 hx (by kernel_rfl) (fun k hk => by cases hk; kernel_rfl) (by kernel_rfl) (laid_w os))) ?_
  intro W base args ds gs before hval0 hW _ hcond _ hL hsh _
  have hval : ∀ (j : Nat) t v, Tryz.f4.params[j]? = some t → args[j]? = some v → Value.okWide Tryz.prog W .any base t v := hval0
  have hW' := hW
  obtain ⟨p, q, hA0, hV, hpq, _, _⟩ := hW
  have hA : DataW.TrodAll enc Tryz.prog W 0 (fun _ => true) true Tryz.f4.params.toList args.toList ds p := hA0
  have hA1 := hA
  obtain ⟨rfl, rfl⟩ := trodVars_none hV
  rw [Tryz.params4] at hA hval
  obtain ⟨v0, d0, rfl, rfl, h0⟩ := trodAll_one hA
  have k0 := okWide_slice und_word (hval 0 24 v0 rfl rfl)
  obtain ⟨l0, hl0, hcn⟩ := words_of k0 h0
  have hbk := bulk_of (hcond _ rfl)
  refine (prints_walk v0 l0 W (env_of hL hsh) hl0 (by omega)).mono fun e W' ⟨he, bel⟩ => ?_
  subst he
  refine ⟨_, rfl, [d0], [], before, [], p, [], hW', ?_, ?_, ?_, bel.frame _, fun h => by cases h⟩
  · exact trodAll_mk1 (shut_bool Tryz.underlying4 _)
  · exact trodAll_below laidOut bel _ _ _ _ (read_of (by kernel_rfl)) hA1
  · rfl
theorem wordPrintsUpto_row : Rows.WordPrintsUptoSaid :=
  OpenClaim.holds_of_cond 4 Tryz.f4 rfl rfl rfl rfl rfl rfl rfl ⟨rfl, rfl, rfl, rfl, rfl⟩ rfl rfl rfl rfl rfl (by kernel_rfl) Tryz.func4 (by kernel_rfl)
    (of_decide_eq_true (by kernel_rfl)) (by unfold Func.isWrapper; first | (rw [if_pos (by decide +kernel)]; kernel_rfl) | (rw [if_neg (by decide +kernel)]; exact ⟨rfl, rfl⟩))
    (fun os started H enc _ F => by rw [OpenClaim.pre_eq_preRow]; exact wordPrints_upto os started H enc F)
theorem wordPrintsUpto_holds : Rows.WordPrintsUptoCardSaid :=
  Claim7.holds_tied_plain_at .later [] _ _ _ _ wordPrintsUpto_row (fun _ h => by cases h) (by kernel_rfl) (fun _ h => by cases h) wordPrintsUpto_row_tie rfl ⟨rfl, rfl⟩ (by kernel_rfl) rfl
    (fun f fn hf hfn => by
      obtain rfl : f = 4 := Option.some.inj ((show Tryz.prog.funcNamed "conch/conchlaw05.WordPrints" = some 4 by kernel_rfl).symm.trans hf) |>.symm
      obtain rfl : fn = Tryz.f4 := (Option.some.inj (Tryz.func4.symm.trans hfn)).symm
      exact ⟨by kernel_rfl, fun j t ht => by
        rw [Tryz.params4] at ht
        have hm : t ∈ [24] := by simpa using Array.mem_of_getElem? ht
        have hall : ([24].all fun u => !Tryz.prog.wantsStandIn u) = true := by kernel_rfl
        exact (show Tryz.prog.wantsStandIn t = false by simpa using List.all_eq_true.1 hall t hm)⟩)
    (by kernel_rfl)
#print axioms wordPrintsUpto_holds
end Go.Proofs.YtnamfjbfcbamjaaGreatDoor
