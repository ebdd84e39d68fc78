/-
  CharsBack holds: what is quoted is unquoted, what can be unquoted is quoted again, and a number's text is its number, for every two texts of up to 2000 bytes and every n; longer texts are let by. No condition beyond the card's own (the listed library tables, tied to the program's text).
-/
import Derived.Test.YtlkeefjbjhmccaaDoorStart
import Derived.Test.YtlkeefjbjhmccaaDoorBackPlain
import Derived.Test.YtlkeefjbjhmccaaDoorRQuote
namespace Go.Proofs.YtlkeefjbjhmccaaDoor
open Go.ChangeShapes Go.WideShapes Go.ChangeAt Go.RowKit
open Go.ChangeMaps (open_string shut_string)

theorem uq_back (s : ByteArray) (w : World) (he : Env w) (hs : s.size ≤ 2000) :
    Calls Tryd.prog 26 #[.string ⟨(quoteL s.data.toList).toArray⟩] w fun e w' => e = .returned (.tuple #[.string s, .int .i64 0]) ∧ Below w.heap.size w w' := by
  have hsz : (⟨(quoteL s.data.toList).toArray⟩ : ByteArray).size ≤ 9000 := by
    show (quoteL s.data.toList).toArray.size ≤ 9000
    have := qBody_len s.data.toList
    have e : s.data.toList.length = s.size := by simp
    simp [quoteL]; omega
  have h := unquote_any ⟨(quoteL s.data.toList).toArray⟩ w he hsz
  have X := unq_ok (q := quoteL s.data.toList) rfl
  have e1 : unqV (⟨(quoteL s.data.toList).toArray⟩ : ByteArray).data.toList = s.data.toList := X.1
  have e2 : unqE (⟨(quoteL s.data.toList).toArray⟩ : ByteArray).data.toList = 0 := X.2
  rw [e1, e2] at h
  exact h

theorem uq_yes (q : ByteArray) (w : World) (he : Env w) (hs : q.size ≤ 2000) (h : quoteL (backL q.data.toList) = q.data.toList) :
    Calls Tryd.prog 26 #[.string q] w fun e w' => e = .returned (.tuple #[.string ⟨(backL q.data.toList).toArray⟩, .int .i64 0]) ∧ Below w.heap.size w w' := by
  have k := unquote_any q w he (by omega)
  have e1 : unqV q.data.toList = backL q.data.toList := by unfold unqV; rw [if_pos h]
  have e2 : unqE q.data.toList = 0 := by unfold unqE; rw [if_pos h]
  rw [e1, e2] at k
  exact k
theorem uq_no (q : ByteArray) (w : World) (he : Env w) (hs : q.size ≤ 2000) (h : ¬ quoteL (backL q.data.toList) = q.data.toList) :
    Calls Tryd.prog 26 #[.string q] w fun e w' => e = .returned (.tuple #[.string ⟨#[]⟩, .int .i64 11]) ∧ Below w.heap.size w w' := by
  have k := unquote_any q w he (by omega)
  have e1 : unqV q.data.toList = [] := by unfold unqV; rw [if_neg h]
  have e2 : unqE q.data.toList = 11 := by unfold unqE; rw [if_neg h]
  rw [e1, e2] at k
  exact k
theorem q_again (q : ByteArray) (w : World) (he : Env w) (hs : q.size ≤ 2000) (h : quoteL (backL q.data.toList) = q.data.toList) :
    Calls Tryd.prog 28 #[.string ⟨(backL q.data.toList).toArray⟩] w fun e w' => e = .returned (.string q) ∧ Below w.heap.size w w' := by
  have hsz : (⟨(backL q.data.toList).toArray⟩ : ByteArray).size ≤ 10000 := by
    show (backL q.data.toList).toArray.size ≤ 10000
    have := back_len q.data.toList
    have e : q.data.toList.length = q.size := by simp
    simp; omega
  have k := quote_any ⟨(backL q.data.toList).toArray⟩ w he hsz
  have e1 : quoteL (⟨(backL q.data.toList).toArray⟩ : ByteArray).data.toList = q.data.toList := h
  rw [e1] at k
  exact k
theorem nb_neg (n : Int) (w : World) (h0 : -9223372036854775808 ≤ n) (h : n < 0) :
    Calls Tryd.prog 22 #[.string ⟨(Lib.itoa n).toArray⟩, .int .i64 4611686018427387904] w fun e w' => (∃ v, e = .returned (.tuple #[.int .i64 v, .int .i64 10])) ∧ w' = w := by
  have k := number_any ⟨(Lib.itoa n).toArray⟩ 4611686018427387904 w (itoa_size n h0 (by omega)) (by omega) (by omega)
  rw [back_neg n _ h] at k
  exact k.mono fun e w' ⟨a, b⟩ => ⟨⟨_, a⟩, b⟩
theorem nb_big (n : Int) (w : World) (h : 4611686018427387904 < n) (h1 : n ≤ 9223372036854775807) :
    Calls Tryd.prog 22 #[.string ⟨(Lib.itoa n).toArray⟩, .int .i64 4611686018427387904] w fun e w' => (∃ v, e = .returned (.tuple #[.int .i64 v, .int .i64 3])) ∧ w' = w := by
  have k := number_any ⟨(Lib.itoa n).toArray⟩ 4611686018427387904 w (itoa_size n (by omega) h1) (by omega) (by omega)
  rw [(back_pos n 4611686018427387904 (by omega) h1 (by omega)).2, if_neg (by omega)] at k
  exact k.mono fun e w' ⟨a, b⟩ => ⟨⟨_, a⟩, b⟩
theorem nb_ok (n : Int) (w : World) (h0 : 0 ≤ n) (h : n ≤ 4611686018427387904) :
    Calls Tryd.prog 22 #[.string ⟨(Lib.itoa n).toArray⟩, .int .i64 4611686018427387904] w fun e w' => e = .returned (.tuple #[.int .i64 n, .int .i64 0]) ∧ w' = w := by
  have k := number_any ⟨(Lib.itoa n).toArray⟩ 4611686018427387904 w (itoa_size n (by omega) (by omega)) (by omega) (by omega)
  have hb := back_pos n 4611686018427387904 h0 (by omega) (by omega)
  rw [hb.1, hb.2, if_pos h, if_pos h] at k
  exact k

set_option maxHeartbeats 2000000 in
theorem back_walk (s q : ByteArray) (n : Int) (w : World) (he : Env w) (hs : s.size ≤ maxLen) (hq : q.size ≤ maxLen) (hn1 : -9223372036854775808 ≤ n) (hn2 : n ≤ 9223372036854775807) :
    Calls Tryd.prog 8 #[.string s, .string q, .int .i64 n] w fun e w' => e = .returned (.bool true) ∧ Below w.heap.size w w' := by
  unfold maxLen at hs hq
  by_cases hb : (2000 : Int) < (s.size : Int)
  · go_enter Tryd.func8, Tryd.ntmps8
    go_wp2_with fail
    refine (awake_any _ he).mono ?_
    rintro e w5 ⟨rfl, b5⟩
    go_wp2_with fail
    go_ret
    exact ⟨rfl, b5⟩
  · have h2 : s.size ≤ 2000 := by omega
    by_cases hc : (2000 : Int) < (q.size : Int)
    · go_enter Tryd.func8, Tryd.ntmps8
      go_wp2_with fail
      refine (awake_any _ he).mono ?_
      rintro e w5 ⟨rfl, b5⟩
      go_wp2_with fail
      go_ret
      exact ⟨rfl, b5⟩
    · have h3 : q.size ≤ 2000 := by omega
      go_enter Tryd.func8, Tryd.ntmps8
      go_wp2_with fail
      refine (quote_any _ _ he (by omega)).mono ?_
      rintro e w1 ⟨rfl, b1⟩
      go_wp2_with fail
      refine (uq_back _ _ (he.below b1) h2).mono ?_
      rintro e w2 ⟨rfl, b2⟩
      have b12 := b1.trans (b2.mono b1.size)
      go_wp2_with fail
      by_cases hy : quoteL (backL q.data.toList) = q.data.toList
      · have HY := hide hy
        clear hy
        refine (uq_yes _ _ (he.below b12) h3 (unhide HY)).mono ?_
        rintro e w3 ⟨rfl, b3⟩
        have b13 := b12.trans (b3.mono b12.size)
        clear b1 b2 b3 b12
        go_wp2_with fail
        refine (q_again _ _ (he.below b13) h3 (unhide HY)).mono ?_
        rintro e w4 ⟨rfl, b4⟩
        have B14 := b13.trans (b4.mono b13.size)
        clear b13 b4
        go_wp2_with fail
        refine (text_any _ _ (he.below B14) hn1 hn2).mono ?_
        rintro e w5 ⟨rfl, b5⟩
        have b15 := B14.trans (b5.mono B14.size)
        clear b5 B14
        go_wp2_with fail
        by_cases g1 : n < 0
        · refine (nb_neg n _ hn1 g1).mono ?_
          rintro e w6 ⟨⟨v, rfl⟩, rfl⟩
          go_wp2_with fail
          refine (awake_any _ (he.below b15)).mono ?_
          rintro e w7 ⟨rfl, b7⟩
          go_wp2_with fail
          go_ret
          exact ⟨rfl, b15.trans (b7.mono b15.size)⟩
        · by_cases g2 : 4611686018427387904 < n
          · refine (nb_big n _ g2 hn2).mono ?_
            rintro e w6 ⟨⟨v, rfl⟩, rfl⟩
            go_wp2_with fail
            refine (awake_any _ (he.below b15)).mono ?_
            rintro e w7 ⟨rfl, b7⟩
            go_wp2_with fail
            go_ret
            exact ⟨rfl, b15.trans (b7.mono b15.size)⟩
          · refine (nb_ok n _ (by omega) (by omega)).mono ?_
            rintro e w6 ⟨rfl, rfl⟩
            go_wp2_with fail
            refine (awake_any _ (he.below b15)).mono ?_
            rintro e w7 ⟨rfl, b7⟩
            go_wp2_with fail
            go_ret
            exact ⟨rfl, b15.trans (b7.mono b15.size)⟩
      · have HY := hide hy
        clear hy
        refine (uq_no _ _ (he.below b12) h3 (unhide HY)).mono ?_
        rintro e w3 ⟨rfl, b3⟩
        have B14 := b12.trans (b3.mono b12.size)
        clear b1 b2 b3 b12
        go_wp2_with fail
        refine (text_any _ _ (he.below B14) hn1 hn2).mono ?_
        rintro e w5 ⟨rfl, b5⟩
        have b15 := B14.trans (b5.mono B14.size)
        clear b5 B14
        go_wp2_with fail
        by_cases g1 : n < 0
        · refine (nb_neg n _ hn1 g1).mono ?_
          rintro e w6 ⟨⟨v, rfl⟩, rfl⟩
          go_wp2_with fail
          refine (awake_any _ (he.below b15)).mono ?_
          rintro e w7 ⟨rfl, b7⟩
          go_wp2_with fail
          go_ret
          exact ⟨rfl, b15.trans (b7.mono b15.size)⟩
        · by_cases g2 : 4611686018427387904 < n
          · refine (nb_big n _ g2 hn2).mono ?_
            rintro e w6 ⟨⟨v, rfl⟩, rfl⟩
            go_wp2_with fail
            refine (awake_any _ (he.below b15)).mono ?_
            rintro e w7 ⟨rfl, b7⟩
            go_wp2_with fail
            go_ret
            exact ⟨rfl, b15.trans (b7.mono b15.size)⟩
          · refine (nb_ok n _ (by omega) (by omega)).mono ?_
            rintro e w6 ⟨rfl, rfl⟩
            go_wp2_with fail
            refine (awake_any _ (he.below b15)).mono ?_
            rintro e w7 ⟨rfl, b7⟩
            go_wp2_with fail
            go_ret
            exact ⟨rfl, b15.trans (b7.mono b15.size)⟩

set_option maxRecDepth 100000 in
theorem charsBack_lifted (os : Os) (started : os.Started) (H : Type) (enc : TypeId × Value → H) :
    ReturnsInHanded {} Tryd.checked os 8 .any (fun w args => (Rows.charsBackSpec.pre enc Tryd.prog Tryd.f8 [] false w args ∧ laidMetH Tryd.prog seatLaid w) ∧ sizedMet enc Tryd.prog Tryd.f8 (OpenSpec.ofChange Rows.charsBackSpec) false w args)
      (Rows.charsBackSpec.post enc Tryd.prog Tryd.f8 false true false false) := by
  refine law_lifted (C := Tryd.checked) (L := seatLaid) (tb := 4) own started (by kernel_rfl) Tryd.func8 laidOut rfl (read_of (by kernel_rfl)) (by kernel_rfl) Tryd.underlying4 ?_
    (ChangeSpec.witness_shaped (enc := enc) (C := Tryd.checked) (os := os) (X := fun w _ => laidMetH Tryd.prog seatLaid w) false (World.laidAll Tryd.prog os seatLaid) #[.string ⟨#[]⟩, .string ⟨#[]⟩, .int .i64 0] 8 (World.laidAll_os _ _ _)
      (World.shaped_of_ZipB (by kernel_rfl) (by kernel_rfl)) (by kernel_rfl) (by kernel_rfl) (by kernel_rfl) (door_met os _)) ?_
  · intro ds hds
    rw [show Tryd.f8.params.toList.length = 3 from by kernel_rfl] at hds
    match ds, hds with
    | [d0, d1, d2], _ => rfl
  · intro W base args ds ps hval0 hA0 hL hsh
    have hval : ∀ (j : Nat) t v, Tryd.f8.params[j]? = some t → args[j]? = some v → Value.okWide Tryd.prog W .any base t v := hval0
    have hA : DataW.TrodAll enc Tryd.prog W 0 (fun _ => true) true Tryd.f8.params.toList args.toList ds ps := hA0
    rw [Tryd.params8] at hA hval
    obtain ⟨v0, v1, v2, d0, d1, d2, p0, p1, p2, rfl, rfl, rfl, h0, h1, h2⟩ := trodAll_three hA
    obtain ⟨s, rfl, rfl, rfl, hs⟩ := open_string Tryd.underlying9 (hval 0 9 v0 rfl rfl) h0
    obtain ⟨q, rfl, rfl, rfl, hq⟩ := open_string Tryd.underlying9 (hval 1 9 v1 rfl rfl) h1
    obtain ⟨n, rfl, rfl, rfl, wn⟩ := open_int Tryd.underlying3 (hval 2 3 v2 rfl rfl) h2
    have bn := bounds_i64 wn
    exact back_walk s q n W (env_of hL hsh) hs hq bn.1 bn.2

theorem charsBack_row : Rows.CharsBackSaid :=
  OpenClaim.holds_of_wide 8 Tryd.f8 rfl rfl rfl rfl rfl rfl rfl ⟨rfl, rfl, rfl, rfl, rfl⟩ rfl rfl rfl rfl rfl (by kernel_rfl) Tryd.func8 (by kernel_rfl)
    (of_decide_eq_true (by kernel_rfl)) (by unfold Func.isWrapper; first | (rw [if_pos (by decide +kernel)]; kernel_rfl) | (rw [if_neg (by decide +kernel)]; exact ⟨rfl, rfl⟩))
    (fun os started H enc _ => charsBack_lifted os started H enc)

theorem charsBack_holds : Rows.CharsBackCardSaid :=
  Claim7.holds_tied_plain_at .later [] [.data, .data, .data, .data, .pinned] true (true, "3544cd5e2a4251992c4ab006778037500598c2ffcfc3900b6cc93534d37210b0") false
    charsBack_row (fun _ h => by cases h) (by kernel_rfl) (fun _ h => by cases h) charsBack_row_tie rfl ⟨rfl, rfl⟩ (by kernel_rfl) rfl
    (fun f fn hf hfn => by
      obtain rfl : f = 8 := Option.some.inj ((show Tryd.prog.funcNamed "conch/conchlaw01.CharsBack" = some 8 by kernel_rfl).symm.trans hf) |>.symm
      obtain rfl : fn = Tryd.f8 := (Option.some.inj (Tryd.func8.symm.trans hfn)).symm
      exact ⟨by kernel_rfl, fun j t ht => by
        rw [Tryd.params8] at ht
        have hm : t ∈ [9, 9, 3] := by simpa using Array.mem_of_getElem? ht
        have hall : ([9, 9, 3].all fun u => !Tryd.prog.wantsStandIn u) = true := by kernel_rfl
        exact (show Tryd.prog.wantsStandIn t = false by simpa using List.all_eq_true.1 hall t hm)⟩)
    (by kernel_rfl)
#print axioms charsBack_holds

end Go.Proofs.YtlkeefjbjhmccaaDoor
