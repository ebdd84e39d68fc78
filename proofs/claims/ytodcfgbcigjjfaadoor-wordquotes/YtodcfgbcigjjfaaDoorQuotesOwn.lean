/-
  WordQuotes holds: a text of up to 300 bytes in quotes, of either kind, is parsed as one quoted Lit, which is that text, the same of both kinds; and the chapter's examples come out; of longer texts the examples alone. No condition but what the row lists: the tables that the program lays.
-/
import Derived.Test.YtodcfgbcigjjfaaDoorWArgs
import Derived.Test.YtodcfgbcigjjfaaDoorWQuoP
namespace Go.Proofs.YtodcfgbcigjjfaaDoor
open Go.ChangeShapes Go.WideShapes Go.ChangeAt Go.RowKit
open Go.ChangeMaps (open_string shut_string)

theorem ext_one {s : ByteArray} {k : Nat} (h : k < s.size) : s.extract k (k + 1) = BA [s[k]] := by
  rw [extract_take, drop_at h]
  rfl
theorem take_one {s : ByteArray} {k : Nat} (h : k < s.size) : s.data.toList.take (k + 1) = s.data.toList.take k ++ [s[k]] := by
  rw [List.take_succ_eq_append_getElem (by simpa using h), data_get s k h]
theorem ba2 (a b : List UInt8) : BA a ++ BA b = BA (a ++ b) := by
  apply ByteArray.ext
  apply Array.ext'
  simp [BA]
theorem sg_39 (a : List UInt8) {c : UInt8} (h : c = 39) : BA a ++ ⟨#[39, 92, 39]⟩ ++ BA [c] = BA (a ++ sngC c) := by
  rw [show (⟨#[39, 92, 39]⟩ : ByteArray) = BA [39, 92, 39] from rfl, ba2, ba2, h]
  simp [sngC]
theorem sg_no (a : List UInt8) {c : UInt8} (h : c ≠ 39) : BA a ++ BA [c] = BA (a ++ sngC c) := by
  rw [ba2]
  simp [sngC, h]
theorem db_es (b : List UInt8) {c : UInt8} (h : escB c = true) : BA b ++ ⟨#[92]⟩ ++ BA [c] = BA (b ++ dblC c) := by
  rw [show (⟨#[92]⟩ : ByteArray) = BA [92] from rfl, ba2, ba2]
  simp [dblC, h]
theorem db_no (b : List UInt8) {c : UInt8} (h : escB c = false) : BA b ++ BA [c] = BA (b ++ dblC c) := by
  rw [ba2]
  simp [dblC, h]
/-- A byte: which of the five it is. -/
theorem byte_is (c : UInt8) (n : Int) (hn : n = (c.toNat : Int)) : (n = 39 ∧ c = 39) ∨ (n = 36 ∧ c = 36) ∨ (n = 34 ∧ c = 34) ∨ (n = 92 ∧ c = 92) ∨ (n = 96 ∧ c = 96) ∨ ((n == 39) = false ∧ (n == 36) = false ∧ (n == 34) = false ∧ (n == 92) = false ∧ (n == 96) = false ∧ c ≠ 39 ∧ escB c = false) := by
  have key : ∀ m : UInt8, c = m ↔ n = (m.toNat : Int) := fun m => by
    rw [hn]
    constructor
    · rintro rfl; rfl
    · intro h; exact UInt8.toNat_inj.1 (by omega)
  by_cases h1 : c = 39
  · exact .inl ⟨(key 39).1 h1, h1⟩
  by_cases h2 : c = 36
  · exact .inr (.inl ⟨(key 36).1 h2, h2⟩)
  by_cases h3 : c = 34
  · exact .inr (.inr (.inl ⟨(key 34).1 h3, h3⟩))
  by_cases h4 : c = 92
  · exact .inr (.inr (.inr (.inl ⟨(key 92).1 h4, h4⟩)))
  by_cases h5 : c = 96
  · exact .inr (.inr (.inr (.inr (.inl ⟨(key 96).1 h5, h5⟩))))
  refine .inr (.inr (.inr (.inr (.inr ⟨?_, ?_, ?_, ?_, ?_, h1, by simp [escB, h2, h3, h4, h5]⟩))))
  · rw [beq_eq_false_iff_ne]; intro e; exact h1 ((key 39).2 e)
  · rw [beq_eq_false_iff_ne]; intro e; exact h2 ((key 36).2 e)
  · rw [beq_eq_false_iff_ne]; intro e; exact h3 ((key 34).2 e)
  · rw [beq_eq_false_iff_ne]; intro e; exact h4 ((key 92).2 e)
  · rw [beq_eq_false_iff_ne]; intro e; exact h5 ((key 96).2 e)

set_option maxRecDepth 20000 in
set_option maxHeartbeats 4000000 in
theorem quotes_walk (s : ByteArray) (w : World) (he : WEnv w) :
    Calls Tryd.prog 5 #[.string s] w fun e w' => e = .returned (.bool true) ∧ Below w.heap.size w w' := by
  have HAW : Hid (∀ W, Below w.heap.size w W → Calls Tryd.prog 8 #[] W fun e w' => e = .returned (.bool true) ∧ Below w.heap.size w w') := hide (fun W hW => (awake_any W (he.belw hW)).mono (fun e w' ⟨h1, h2⟩ => ⟨h1, hW.trans (h2.mono hW.size)⟩))
  have HPA : Hid (∀ W l, l.length ≤ 100000 → Below w.heap.size w W → Calls Tryd.prog 13 #[.string (BA l)] W fun e w' => ∃ v, e = .returned (.tuple #[v, .int .i64 (wrdL true 0 l).errno]) ∧ Below W.heap.size W w' ∧ WAt w' (fun k => W.heap.size ≤ k ∧ k < w'.heap.size) v (wrdL true 0 l).parts) := hide (fun W l hl hW => parse_any l W (he.belw hW) hl)
  clear he
  by_cases hs : 300 < s.size
  · go_enter Tryd.func5, Tryd.ntmps5
    go_wp2_with fail
    refine (unhide HAW _ (Below.refl _ _)).mono ?_
    rintro e w2 ⟨rfl, b2⟩
    have HB2 := hide b2
    clear b2
    go_wp2
    go_ret
    exact ⟨rfl, unhide HB2⟩
  · have hs' : s.size ≤ 300 := by omega
    go_enter Tryd.func5, Tryd.ntmps5
    go_wp2_with fail
    go_loopw [3, 4, 5] (fun sg db i wr => ∃ (k : Nat) (a b : List UInt8), sg = .string (BA a) ∧ db = .string (BA b) ∧ k ≤ s.size ∧ i = .int .i64 k ∧ w = wr ∧ Hid (a = 39 :: sngT (s.data.toList.take k) ∧ b = 34 :: dblT (s.data.toList.take k))) (fun _ _ i _ => s.size - (intOf i).toNat)
    case atStart => exact ⟨0, [39], [34], rfl, rfl, Nat.zero_le _, rfl, rfl, hide ⟨rfl, rfl⟩⟩
    case round =>
      obtain ⟨k, a, b, rfl, rfl, hk, rfl, rfl, HR⟩ := hrel
      have hal : a.length ≤ 1 + 4 * k := by
        rw [(unhide HR).1]
        have := sngT_len (s.data.toList.take k)
        simp at this ⊢
        omega
      have hbl : b.length ≤ 1 + 4 * k := by
        rw [(unhide HR).2]
        have := dblT_len (s.data.toList.take k)
        simp at this ⊢
        omega
      by_cases hlt : k < s.size
      · have HT := hide (take_one hlt)
        have HEX := hide (ext_one hlt)
        have HN : Hid (39 :: sngT (s.data.toList.take (k + 1)) = a ++ sngC s[k] ∧ 34 :: dblT (s.data.toList.take (k + 1)) = b ++ dblC s[k]) := hide (by
          rw [unhide HT, sngT_snoc, dblT_snoc, (unhide HR).1, (unhide HR).2]
          exact ⟨rfl, rfl⟩)
        have ha1 : (BA a).size ≤ 1300 := by rw [BA_size]; omega
        have hb1 : (BA b).size ≤ 1300 := by rw [BA_size]; omega
        rcases byte_is s[k] _ rfl with ⟨h1, h2⟩ | ⟨h1, h2⟩ | ⟨h1, h2⟩ | ⟨h1, h2⟩ | ⟨h1, h2⟩ | ⟨h1, h2, h3, h4, h5, h6, h7⟩
        · have HC := hide h2
          clear h2
          go_wp2_with fail
          go_roundw
          case rel => exact ⟨k + 1, _, _, congrArg Value.string (by rw [unhide HEX]; exact sg_39 a (unhide HC)), congrArg Value.string (by rw [unhide HEX]; exact db_no b (by rw [unhide HC]; rfl)), by omega, by go_num, by first | rfl | trivial, hide ⟨(unhide HN).1.symm, (unhide HN).2.symm⟩⟩
          case measure => simp [intOf]; omega
        · have HC := hide h2
          clear h2
          go_wp2_with fail
          go_roundw
          case rel => exact ⟨k + 1, _, _, congrArg Value.string (by rw [unhide HEX]; exact sg_no a (by rw [unhide HC]; decide)), congrArg Value.string (by rw [unhide HEX]; exact db_es b (by rw [unhide HC]; rfl)), by omega, by go_num, by first | rfl | trivial, hide ⟨(unhide HN).1.symm, (unhide HN).2.symm⟩⟩
          case measure => simp [intOf]; omega
        · have HC := hide h2
          clear h2
          go_wp2_with fail
          go_roundw
          case rel => exact ⟨k + 1, _, _, congrArg Value.string (by rw [unhide HEX]; exact sg_no a (by rw [unhide HC]; decide)), congrArg Value.string (by rw [unhide HEX]; exact db_es b (by rw [unhide HC]; rfl)), by omega, by go_num, by first | rfl | trivial, hide ⟨(unhide HN).1.symm, (unhide HN).2.symm⟩⟩
          case measure => simp [intOf]; omega
        · have HC := hide h2
          clear h2
          go_wp2_with fail
          go_roundw
          case rel => exact ⟨k + 1, _, _, congrArg Value.string (by rw [unhide HEX]; exact sg_no a (by rw [unhide HC]; decide)), congrArg Value.string (by rw [unhide HEX]; exact db_es b (by rw [unhide HC]; rfl)), by omega, by go_num, by first | rfl | trivial, hide ⟨(unhide HN).1.symm, (unhide HN).2.symm⟩⟩
          case measure => simp [intOf]; omega
        · have HC := hide h2
          clear h2
          go_wp2_with fail
          go_roundw
          case rel => exact ⟨k + 1, _, _, congrArg Value.string (by rw [unhide HEX]; exact sg_no a (by rw [unhide HC]; decide)), congrArg Value.string (by rw [unhide HEX]; exact db_es b (by rw [unhide HC]; rfl)), by omega, by go_num, by first | rfl | trivial, hide ⟨(unhide HN).1.symm, (unhide HN).2.symm⟩⟩
          case measure => simp [intOf]; omega
        · have H6 := hide h6
          have H7 := hide h7
          clear h6 h7
          go_wp2_with fail
          go_roundw
          case rel => exact ⟨k + 1, _, _, congrArg Value.string (by rw [unhide HEX]; exact sg_no a (unhide H6)), congrArg Value.string (by rw [unhide HEX]; exact db_no b (unhide H7)), by omega, by go_num, by first | rfl | trivial, hide ⟨(unhide HN).1.symm, (unhide HN).2.symm⟩⟩
          case measure => simp [intOf]; omega
      · have hke : k = s.size := by omega
        have HT : Hid (a = 39 :: sngT s.data.toList ∧ b = 34 :: dblT s.data.toList) := hide (by
          have := unhide HR
          rwa [List.take_of_length_le (by rw [data_len]; omega)] at this)
        have hlt1 : ¬ (k : Int) < (s.size : Int) := by omega
        have HPS : Hid (∀ W, Below w.heap.size w W → Calls Tryd.prog 13 #[.string (BA a ++ ⟨#[39]⟩)] W fun e w' => ∃ ad cap, e = .returned (.tuple #[.slice ad 1 cap, .int .i64 0]) ∧ Below W.heap.size W w' ∧ WAt w' (fun k => W.heap.size ≤ k ∧ k < w'.heap.size) (.slice ad 1 cap) [litP s.data.toList true]) := hide (fun W hW => by
          have hx : BA a ++ ⟨#[39]⟩ = BA (39 :: (sngT s.data.toList ++ [39])) := by rw [(unhide HT).1]; exact ba2 _ [39]
          rw [hx]
          have := sngT_len s.data.toList
          rw [data_len] at this
          have h := unhide HPA W (39 :: (sngT s.data.toList ++ [39])) (by simp; omega) hW
          rw [sng_word s.data.toList (by rw [data_len]; exact hs')] at h
          refine h.mono ?_
          rintro e w' ⟨v, he, hb, hv⟩
          obtain ⟨ad, cap, rfl, _⟩ := hv.len
          exact ⟨ad, cap, he, hb, hv⟩)
        have HPD : Hid (∀ W, Below w.heap.size w W → Calls Tryd.prog 13 #[.string (BA b ++ ⟨#[34]⟩)] W fun e w' => ∃ ad cap, e = .returned (.tuple #[.slice ad 1 cap, .int .i64 0]) ∧ Below W.heap.size W w' ∧ WAt w' (fun k => W.heap.size ≤ k ∧ k < w'.heap.size) (.slice ad 1 cap) [litP s.data.toList true]) := hide (fun W hW => by
          have hx : BA b ++ ⟨#[34]⟩ = BA (34 :: (dblT s.data.toList ++ [34])) := by rw [(unhide HT).2]; exact ba2 _ [34]
          rw [hx]
          have := dblT_len s.data.toList
          rw [data_len] at this
          have h := unhide HPA W (34 :: (dblT s.data.toList ++ [34])) (by simp; omega) hW
          rw [dbl_word s.data.toList (by rw [data_len]; exact hs')] at h
          refine h.mono ?_
          rintro e w' ⟨v, he, hb, hv⟩
          obtain ⟨ad, cap, rfl, _⟩ := hv.len
          exact ⟨ad, cap, he, hb, hv⟩)
        have ha1 : (BA a).size ≤ 1300 := by rw [BA_size]; omega
        have hb1 : (BA b).size ≤ 1300 := by rw [BA_size]; omega
        clear HT HR HPA hke
        go_wp2_with fail
        refine (unhide HPS _ (Below.refl _ _)).mono ?_
        rintro e w1 ⟨ad1, cap1, rfl, b1, v1⟩
        have HB1 := hide b1
        have HV1 := hide v1
        clear b1 v1
        go_wp2_with fail
        refine (unhide HPD _ (unhide HB1)).mono ?_
        rintro e w2 ⟨ad2, cap2, rfl, b2, v2⟩
        have HB2 : Hid (Below w.heap.size w w2) := hide ((unhide HB1).trans (b2.mono (unhide HB1).size))
        have hv1 := (unhide HV1).below b2 (fun k h => h.2)
        obtain ⟨g, o, v, had, hg, c0, c1, c2, _, _, _, _⟩ := hv1.part (i := 0) rfl
        subst had
        have q0 : w2.cell? ⟨g, o, none⟩ = some (.int .i64 1) := by simpa [litP, Prt.kind] using c0
        have q1 : w2.cell? ⟨g, o + 1, none⟩ = some (.string s) := by
          have := c1
          simp only [litP, Prt.text, BA_of, Nat.zero_mul, Nat.add_zero] at this
          exact this
        have q2 : w2.cell? ⟨g, o + 2, none⟩ = some (.bool true) := by simpa [litP, Prt.quote] using c2
        have HSM : Hid (Calls Tryd.prog 9 #[.slice (some ⟨g, o, none⟩) 1 cap1, .slice ad2 1 cap2] w2 fun e w' => e = .returned (.bool true) ∧ Below w.heap.size w w') := hide (by
          have := same_any _ _ _ _ w2 _ _ hv1 v2 (fun k h => Nat.lt_of_lt_of_le h.2 b2.size) (fun k h => h.2)
          rw [sameW_refl] at this
          exact this.mono (fun e w' ⟨h1, h2⟩ => ⟨h1, (unhide HB2).trans (h2.mono (unhide HB2).size)⟩))
        clear c0 c1 c2 hg hv1 v2 b2 HV1 HB1
        go_wp2_with fail
        refine (unhide HSM).mono ?_
        rintro e w3 ⟨rfl, b3⟩
        have HB3 := hide b3
        clear b3 q0 q1 q2
        go_wp2_with fail
        refine (unhide HAW _ (unhide HB3)).mono ?_
        rintro e w4 ⟨rfl, b4⟩
        have HB4 := hide b4
        clear b4
        go_wp2
        go_ret
        exact ⟨rfl, unhide HB4⟩

set_option maxRecDepth 100000 in
theorem wordQuotes_lifted (os : Os) (started : os.Started) (H : Type) (enc : TypeId × Value → H) :
    ReturnsInHanded {} Tryd.checked os 5 .any (fun w args => (Rows.wordQuotesSpec.pre enc Tryd.prog Tryd.f5 [] false w args ∧ laidMetH Tryd.prog seatLaid w) ∧ sizedMet enc Tryd.prog Tryd.f5 (OpenSpec.ofChange Rows.wordQuotesSpec) false w args)
      (Rows.wordQuotesSpec.post enc Tryd.prog Tryd.f5 false true false false) := by
  refine law_lifted (C := Tryd.checked) (L := seatLaid) (tb := 4) own started (by kernel_rfl) Tryd.func5 laidOut rfl (read_of (by kernel_rfl)) (by kernel_rfl) Tryd.underlying4 ?_
    (ChangeSpec.witness_shaped (enc := enc) (C := Tryd.checked) (os := os) (X := fun w _ => laidMetH Tryd.prog seatLaid w) false (World.laidAll Tryd.prog os seatLaid) #[.string ⟨#[]⟩] 8 (World.laidAll_os _ _ _)
      (World.shaped_of_ZipB (by kernel_rfl) (by kernel_rfl)) (by kernel_rfl) (by kernel_rfl) (by kernel_rfl) (door_met os _)) ?_
  · intro ds hds
    rw [show Tryd.f5.params.toList.length = 1 from by kernel_rfl] at hds
    match ds, hds with
    | [d0], _ => rfl
  · intro W base args ds ps hval0 hA0 hL hsh
    have hval : ∀ (j : Nat) t v, Tryd.f5.params[j]? = some t → args[j]? = some v → Value.okWide Tryd.prog W .any base t v := hval0
    have hA : DataW.TrodAll enc Tryd.prog W 0 (fun _ => true) true Tryd.f5.params.toList args.toList ds ps := hA0
    rw [Tryd.params5] at hA hval
    obtain ⟨v0, d0, rfl, rfl, h0⟩ := trodAll_one hA
    obtain ⟨s, rfl, rfl, rfl, _⟩ := open_string Tryd.underlying9 (hval 0 9 v0 rfl rfl) h0
    exact quotes_walk s W (env_of hL hsh)

theorem wordQuotes_row : Rows.WordQuotesSaid :=
  OpenClaim.holds_of_wide 5 Tryd.f5 rfl rfl rfl rfl rfl rfl rfl ⟨rfl, rfl, rfl, rfl, rfl⟩ rfl rfl rfl rfl rfl (by kernel_rfl) Tryd.func5 (by kernel_rfl)
    (of_decide_eq_true (by kernel_rfl)) (by unfold Func.isWrapper; first | (rw [if_pos (by decide +kernel)]; kernel_rfl) | (rw [if_neg (by decide +kernel)]; exact ⟨rfl, rfl⟩))
    (fun os started H enc _ => wordQuotes_lifted os started H enc)

theorem wordQuotes_holds : Rows.WordQuotesCardSaid :=
  Claim7.holds_tied_plain_at .later [] [.data, .data, .data, .pinned] true (true, "f6cba15e1e3cb66c60d751b05b336cfb6796e2637e537df83c9abe52e761cfa9") false
    wordQuotes_row (fun _ h => by cases h) (by kernel_rfl) (fun _ h => by cases h) wordQuotes_row_tie rfl ⟨rfl, rfl⟩ (by kernel_rfl) rfl
    (fun f fn hf hfn => by
      obtain rfl : f = 5 := Option.some.inj ((show Tryd.prog.funcNamed "conch/conchlaw05.WordQuotes" = some 5 by kernel_rfl).symm.trans hf) |>.symm
      obtain rfl : fn = Tryd.f5 := (Option.some.inj (Tryd.func5.symm.trans hfn)).symm
      exact ⟨by kernel_rfl, fun j t ht => by
        rw [Tryd.params5] at ht
        have hm : t ∈ [9] := by simpa using Array.mem_of_getElem? ht
        have hall : ([9].all fun u => !Tryd.prog.wantsStandIn u) = true := by kernel_rfl
        exact (show Tryd.prog.wantsStandIn t = false by simpa using List.all_eq_true.1 hall t hm)⟩)
    (by kernel_rfl)
#print axioms wordQuotes_holds

end Go.Proofs.YtodcfgbcigjjfaaDoor
