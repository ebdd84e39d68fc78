/-
  The reader's methods for things: 'singleQuotes' and 'around' on what stands in it.
-/
import Derived.Test.YtodcfgbcigjjfaaDoorRdr
namespace Go.Proofs.YtodcfgbcigjjfaaDoor
open Go.RowKit

/-- What reading a thing comes to. -/
def ThEnd (w : World) (b : Nat) (t : TypeId) (tl : List Value) (s : ByteArray) (d : Nat) (r : Rs) (en : Ending) (w' : World) : Prop :=
  en = .returned (.tuple #[]) ∧ w.grownBy w' (some b) ∧ match r with
    | .ok m => ∃ q, s.data.toList.drop q = m ∧ Rdr w' b t tl s q d 0 0
    | .err e m => ∃ q d', e ≠ 0 ∧ Rdr w' b t tl s q d' e ((s.size - m.length : Nat) : Int)
/-- 'thing' reads as it should, of what has up to N bytes. -/
def MT (N : Nat) : Prop := ∀ (w : World) (b : Nat) (t : TypeId) (tl : List Value) (s : ByteArray) (p d : Nat) (wh F : Nat), Rdr w b t tl s p d 0 0 → p < s.size → s.size ≤ p + N → wh ≤ 4 → 3 * (s.size - p) + 3 ≤ F → ∀ wv : Int, wv = (wh : Int) →
  Calls Tryd.prog 82 #[.pointer (some ⟨b, 0, none⟩), .int .i64 wv] w fun en w' => ThEnd w b t tl s d (thg F (s.data.toList.drop p) wh d) en w'

set_option maxRecDepth 20000 in
set_option maxHeartbeats 2000000 in
theorem single_quotes (w : World) (b : Nat) (t : TypeId) (tl : List Value) (s : ByteArray) (p d : Nat) (r : List UInt8) (h : Rdr w b t tl s p d 0 0) (hm : s.data.toList.drop p = 39 :: r) :
    Calls Tryd.prog 96 #[.pointer (some ⟨b, 0, none⟩)] w fun en w' => ThEnd w b t tl s d (match r.dropWhile (fun x => x != 39) with
      | [] => .err 11 (39 :: r)
      | _ :: r' => .ok r') en w' := by
  obtain ⟨hlt, hd1⟩ := drop_step hm
  have c1 := h.c1
  have c2 := h.c2
  have z2 := h.blk.frozen 2
  have hlen := h.len
  have hrl : r.length = s.size - (p + 1) := by rw [← hd1, List.length_drop, data_len]
  obtain ⟨p1, hp1⟩ : ∃ x, x = p + 1 := ⟨_, rfl⟩
  rw [← hp1] at hd1 hrl
  have hw1 : IntKind.i64.wrap ((p : Int) + 1) = (p1 : Int) := by rw [IntKind.wrap_i64]; omega
  have hp1s : p1 ≤ s.size := by omega
  have HI : Hid (∀ w, Calls Tryd.prog 42 #[.string (s.extract p1 s.size), .int .u8 39] w fun e w' => e = .returned (.int .i64 (Lib.indexByte r 39)) ∧ w' = w) := hide (fun w => by
    have := Tryd.strings_IndexByte (s.extract p1 s.size) 39 w
    rw [extract_end, hd1, BA_list] at this
    rw [extract_end, hd1]
    exact this)
  have H := hide h
  have HM := hide hm
  have HD1 := hide hd1
  have HP1 := hide hp1
  clear h hm hd1
  rcases index_dw r 39 with ⟨h1, h2⟩ | ⟨k, h1, h2, h3⟩
  · rw [h1] at HI
    rw [h2]
    clear h1 h2 hp1
    go_enter Tryd.func96, Tryd.ntmps96
    go_wp2_with fail
    go_quiet ((go_at_call 42; exact Calls.quiet_of_same (unhide HI _)))
    go_wp2_with fail
    refine (fail_any 11 (p : Int) ((unhide H).drewN _)).mono ?_
    rintro en w3 ⟨rfl, h3, g3⟩
    have H3 := hide h3
    have G3 := hide g3
    clear h3 g3
    go_wp2
    refine bodyPost_end (res0 rfl _ _) rfl ?_
    refine ⟨rfl, (grown_but (grown_drewN w _) _).trans (unhide G3), p, d, by decide, ?_⟩
    rw [← unhide HM, place_of (by omega)]
    exact unhide H3
  · rw [h1] at HI
    rw [h3]
    obtain ⟨q, hq⟩ : ∃ x, x = p + (k + 2) := ⟨_, rfl⟩
    have hw2 : IntKind.i64.wrap ((k : Int) + 2) = (k : Int) + 2 := by rw [IntKind.wrap_i64]; omega
    have hw3 : IntKind.i64.wrap ((p : Int) + ((k : Int) + 2)) = (q : Int) := by rw [IntKind.wrap_i64]; omega
    have hk0 : ¬ (k : Int) < 0 := by omega
    have hqs : q ≤ s.size := by omega
    have hdq : s.data.toList.drop q = r.drop (k + 1) := by rw [hq, ← unhide HD1, List.drop_drop, unhide HP1]; congr 1; omega
    have HDQ := hide hdq
    clear h1 h2 h3 hq hdq hp1
    go_enter Tryd.func96, Tryd.ntmps96
    go_wp2_with fail
    go_quiet ((go_at_call 42; exact Calls.quiet_of_same (unhide HI _)))
    go_wp2
    refine bodyPost_end (res0 rfl _ _) rfl ?_
    exact ⟨rfl, (grown_but (grown_drewN w _) _).trans (grown_setCell _ ⟨b, 2, none⟩ _), q, unhide HDQ, ((unhide H).drewN _).to q hqs⟩

/-- What is known in the loop of 'around'. -/
def AroI (w : World) (b : Nat) (t : TypeId) (tl : List Value) (s : ByteArray) (d1 q0 : Nat) (fr : List UInt8) (e : UInt8) (wh : Nat) (T : Rs) (q : Nat) (f1 bl1 : Int) (wr : World) : Prop :=
  ∃ d2, Rdr wr b t tl s q d2 f1 bl1 ∧ w.grownBy wr (some b) ∧ ((f1 = 0 ∧ bl1 = 0 ∧ d2 = d1 ∧ q0 ≤ q ∧ ∃ F, 3 * (s.size - q) + 4 ≤ F ∧ T = lop F (s.data.toList.drop q) fr e wh d1) ∨ (f1 ≠ 0 ∧ ∃ m, T = .err f1 m ∧ bl1 = ((s.size - m.length : Nat) : Int)))
/-- A thing more. -/
theorem AroI.next {w wr w5 : World} {b : Nat} {t : TypeId} {tl : List Value} {s : ByteArray} {d1 q0 : Nat} {fr : List UInt8} {e : UInt8} {wh : Nat} {T : Rs} {q F : Nat} {en : Ending} {k : Nat} (hR : Rdr wr b t tl s q d1 0 0) (hG : w.grownBy wr (some b)) (hq0 : q0 ≤ q) (hq : q < s.size) (hF : 3 * (s.size - q) + 4 ≤ F + 1)
    (hT : T = match thg F (s.data.toList.drop q) wh d1 with
      | .err x b => .err x b
      | .ok l' => lop F l' fr e wh d1) (h5 : ThEnd (wr.drewN k) b t tl s d1 (thg F (s.data.toList.drop q) wh d1) en w5) :
    ∃ (q' : Nat) (f' bl' : Int), AroI w b t tl s d1 q0 fr e wh T q' f' bl' w5 ∧ msr s b w5 < msr s b wr := by
  obtain ⟨_, g5, h5⟩ := h5
  have hg5 := hG.trans ((grown_but (grown_drewN wr k) _).trans g5)
  have hln := thg_len (F - 1) s[q] (s.data.toList.drop (q + 1)) wh d1
  rw [← drop_at hq, show F - 1 + 1 = F by omega] at hln
  have hdl : (s.data.toList.drop (q + 1)).length = s.size - (q + 1) := by rw [List.length_drop, data_len]
  rw [hR.msr0]
  rcases hth : thg F (s.data.toList.drop q) wh d1 with r' | ⟨x, m⟩
  · rw [hth] at h5 hln hT
    obtain ⟨q2, hq2, hr2⟩ := h5
    have hl2 : r'.length ≤ (s.data.toList.drop (q + 1)).length := hln
    have hq2l : r'.length = s.size - q2 := by rw [← hq2, List.length_drop, data_len]
    have hq2s := hr2.le
    refine ⟨q2, 0, 0, ⟨d1, hr2, hg5, .inl ⟨rfl, rfl, rfl, by omega, F, by omega, ?_⟩⟩, ?_⟩
    · rw [hT, hq2]
    · rw [hr2.msr0]
      omega
  · rw [hth] at h5 hT
    obtain ⟨q2, d2, hx, hr2⟩ := h5
    refine ⟨q2, x, _, ⟨d2, hr2, hg5, .inr ⟨hx, m, hT, rfl⟩⟩, ?_⟩
    rw [hr2.msr1 hx]
    omega

set_option maxRecDepth 20000 in
set_option maxHeartbeats 8000000 in
theorem around_any {N : Nat} (hT : MT N) (w : World) (b : Nat) (t : TypeId) (tl : List Value) (s : ByteArray) (p d : Nat) (n wh F : Nat) (op : ByteArray) (e : UInt8) (h : Rdr w b t tl s p d 0 0) (hop : op.size = n) (hn : p + n ≤ s.size) (hN : s.size ≤ p + n + N) (hwh : wh ≤ 4) (hF : 3 * (s.size - (p + n)) + 5 ≤ F) (wv : Int) (hwv : wv = (wh : Int)) (ev : Int) (hev : ev = (e.toNat : Int)) :
    Calls Tryd.prog 94 #[.pointer (some ⟨b, 0, none⟩), .string op, .int .i64 wv, .int .u8 ev] w fun en w' => ThEnd w b t tl s d (cls F (s.data.toList.drop (p + n)) (s.data.toList.drop p) e wh d) en w' := by
  subst hwv
  have hlen := h.len
  have hple := h.le
  have hdle := h.dle
  obtain ⟨F, rfl⟩ : ∃ G, F = G + 1 := ⟨F - 1, by omega⟩
  rw [cls_succ]
  have c2 := h.c2
  have H := hide h
  have HPL := hide (place_of (s := s) (p := p) (by omega))
  obtain ⟨fr, hfr⟩ : ∃ x, x = s.data.toList.drop p := ⟨_, rfl⟩
  rw [← hfr] at HPL ⊢
  have HEV := hide hev
  clear h hfr hev
  by_cases hd : d = 40
  · subst hd
    rw [if_pos (Nat.le_refl _)]
    have HEN := hide (enter_no (unhide H))
    go_enter Tryd.func94, Tryd.ntmps94
    go_wp2_with fail
    refine (unhide HEN).mono ?_
    rintro en w1 ⟨rfl, hw1⟩
    have hw2 := hw1.symm
    subst hw2
    clear hw1
    go_wp2_with fail
    refine (fail_any 3 (p : Int) (unhide H)).mono ?_
    rintro en w3 ⟨rfl, h3, g3⟩
    have H3 := hide h3
    have G3 := hide g3
    clear h3 g3
    go_wp2
    refine bodyPost_end (res0 rfl _ _) rfl ?_
    refine ⟨rfl, unhide G3, p, 40, by decide, ?_⟩
    rw [unhide HPL]
    exact unhide H3
  · have hd' : d < 40 := by omega
    rw [if_neg (by omega)]
    obtain ⟨q0, hq0⟩ : ∃ x, x = p + n := ⟨_, rfl⟩
    rw [← hq0] at hn hN hF ⊢
    have hwq : IntKind.i64.wrap ((p : Int) + (n : Int)) = (q0 : Int) := by rw [IntKind.wrap_i64]; omega
    have hopn : (op.size : Int) = (n : Int) := by omega
    obtain ⟨d1, hd1⟩ : ∃ x, x = d + 1 := ⟨_, rfl⟩
    rw [← hd1]
    have HEN := hide (enter_yes d1 hd1 (unhide H) hd')
    have HD := (unhide H).deep d1 (by omega)
    have x2 := HD.c2
    have y2 := HD.blk.frozen 2
    have HI : Hid (AroI w b t tl s d1 q0 fr e wh (lop F (s.data.toList.drop q0) fr e wh d1) q0 0 0 ((w.setCell ⟨b, 0, none⟩ (.int .i64 (d1 : Int))).setCell ⟨b, 2, none⟩ (.int .i64 (q0 : Int)))) :=
      hide ⟨d1, HD.to q0 hn, (grown_setCell w ⟨b, 0, none⟩ _).trans (grown_setCell _ ⟨b, 2, none⟩ _), .inl ⟨rfl, rfl, rfl, Nat.le_refl _, F, by omega, rfl⟩⟩
    obtain ⟨T, hT0⟩ : ∃ x, x = lop F (s.data.toList.drop q0) fr e wh d1 := ⟨_, rfl⟩
    rw [← hT0] at HI ⊢
    have HMT := hide hT
    have HD1 := hide hd1
    have hpq : p ≤ q0 := by omega
    clear HD hq0 hF hop hd hT0 hT hd1
    go_enter Tryd.func94, Tryd.ntmps94
    go_wp2_with fail
    refine (unhide HEN).mono ?_
    rintro en w1 ⟨rfl, hw1⟩
    subst hw1
    go_wp2_with fail
    go_loopw [44] (fun _ wr => ∃ (q : Nat) (f1 bl1 : Int), Hid (AroI w b t tl s d1 q0 fr e wh T q f1 bl1 wr)) (fun _ wr => msr s b wr)
    case atStart => exact ⟨q0, 0, 0, HI⟩
    case round =>
      clear HI c2 x2 y2
      obtain ⟨q, f1, bl1, HI⟩ := hrel
      obtain ⟨d2, hR, hG, hc⟩ := unhide HI
      clear HI
      have hle := hR.le
      have c1 := hR.c1
      have c2 := hR.c2
      have HR := hide hR
      have HG := hide hG
      clear hR hG
      rcases hc with ⟨rfl, rfl, hd2, hqq, F1, hF1, hT1⟩ | ⟨hf1, m, hT1, hbl⟩
      · subst hd2
        by_cases hq : q < s.size
        · have hmo : moreB s q 0 = true := by unfold moreB; rw [decide_eq_true hq]; rfl
          have HM : Hid (∀ k, Calls Tryd.prog 102 #[.pointer (some ⟨b, 0, none⟩)] (wr.drewN k) fun e w' => e = .returned (.bool true) ∧ ∃ j, w' = (wr.drewN k).drewN j) := hide (fun k => by
            have := more_any ((unhide HR).drewN k)
            rw [hmo] at this
            exact this)
          obtain ⟨F1, rfl⟩ : ∃ G, F1 = G + 1 := ⟨F1 - 1, by omega⟩
          rw [drop_at hq, lop_succ] at hT1
          have hq' : (q : Int) < (s.size : Int) := by omega
          by_cases hbe : s[q] = e
          · rw [if_pos hbe] at hT1
            have hbv : (s[q].toNat : Int) = ev := by rw [hbe, unhide HEV]
            obtain ⟨q1, hq1⟩ : ∃ x, x = q + 1 := ⟨_, rfl⟩
            have hw1 : IntKind.i64.wrap ((q : Int) + 1) = (q1 : Int) := by rw [IntKind.wrap_i64]; omega
            have HT1 := hide (show T = .ok (s.data.toList.drop q1) by rw [hT1, hq1])
            have hq1s : q1 ≤ s.size := by omega
            clear hT1 hbe hq1 hmo
            go_wp2_with fail
            go_quiet ((go_at_call 102; exact Calls.quiet_of (unhide HM _)))
            go_wp2_with fail
            refine (unhide HM nq).mono ?_
            rintro en w5 ⟨rfl, k5, hw5⟩
            rw [World.drewN_drewN] at hw5
            generalize nq + k5 = k6 at hw5
            subst hw5
            have z2 := ((unhide HR).drewN k6).blk.frozen 2
            have x2 := ((unhide HR).drewN k6).c2
            go_wp2_with fail
            have h6 := ((unhide HR).drewN k6).to q1 hq1s
            refine (leave_any d2 (unhide HD1) h6).mono ?_
            rintro en w7 ⟨rfl, hw7⟩
            have h7 := h6.deep d (by omega)
            have H7 := hide h7
            clear h6 h7
            subst hw7
            go_wp2
            refine bodyPost_end (res0 rfl _ _) rfl ?_
            refine ⟨rfl, (unhide HG).trans ((grown_but (grown_drewN wr k6) _).trans ((grown_setCell _ ⟨b, 2, none⟩ _).trans (grown_setCell _ ⟨b, 0, none⟩ _))), ?_⟩
            rw [unhide HT1]
            exact ⟨q1, rfl, unhide H7⟩
          · rw [if_neg hbe, ← drop_at hq] at hT1
            have hbv : ¬ (s[q].toNat : Int) = ev := by
              rw [unhide HEV]
              intro e'
              exact hbe (UInt8.toNat_inj.1 (by omega))
            have HT1 := hide hT1
            have HTH := hide (fun k => unhide HMT (wr.drewN k) b t tl s q d2 wh F1 ((unhide HR).drewN k) hq (by omega) hwh (by omega) _ rfl)
            clear hT1 hbe hmo
            go_wp2_with fail
            go_quiet ((go_at_call 102; exact Calls.quiet_of (unhide HM _)))
            go_wp2_with fail
            refine (unhide HTH nq).mono ?_
            intro en w5 h5
            obtain ⟨q', f', bl', hN, hm5⟩ := AroI.next (unhide HR) (unhide HG) hqq hq hF1 (unhide HT1) h5
            obtain ⟨rfl, _⟩ := h5
            have HN5 := hide hN
            have HM5 := hide hm5
            clear hN hm5
            go_wp2
            go_roundw
            case rel => exact ⟨q', f', bl', HN5⟩
            case measure => exact unhide HM5
        · have hmo : moreB s q 0 = false := by unfold moreB; rw [decide_eq_false hq]; rfl
          have HM : Hid (∀ k, Calls Tryd.prog 102 #[.pointer (some ⟨b, 0, none⟩)] (wr.drewN k) fun e w' => e = .returned (.bool false) ∧ ∃ j, w' = (wr.drewN k).drewN j) := hide (fun k => by
            have := more_any ((unhide HR).drewN k)
            rw [hmo] at this
            exact this)
          obtain ⟨F1, rfl⟩ : ∃ G, F1 = G + 1 := ⟨F1 - 1, by omega⟩
          rw [drop_nil (by omega), lop_nil] at hT1
          have HT1 := hide hT1
          clear hT1 hmo
          go_wp2_with fail
          go_quiet ((go_at_call 102; exact Calls.quiet_of (unhide HM _)))
          go_wp2_with fail
          refine (unhide HM nq).mono ?_
          rintro en w5 ⟨rfl, k5, hw5⟩
          rw [World.drewN_drewN] at hw5
          generalize nq + k5 = k6 at hw5
          subst hw5
          go_wp2_with fail
          refine (fail_any 11 (p : Int) ((unhide HR).drewN k6)).mono ?_
          rintro en w7 ⟨rfl, h7, g7⟩
          have H7 := hide h7
          have G7 := hide g7
          clear h7 g7
          go_wp2
          refine bodyPost_end (res0 rfl _ _) rfl ?_
          refine ⟨rfl, (unhide HG).trans ((grown_but (grown_drewN wr k6) _).trans (unhide G7)), ?_⟩
          rw [unhide HT1]
          refine ⟨q, d2, by decide, ?_⟩
          rw [unhide HPL]
          exact unhide H7
      · have hmo : moreB s q f1 = false := by unfold moreB; rw [show (f1 == 0) = false by simpa using hf1]; rfl
        have HM : Hid (∀ k, Calls Tryd.prog 102 #[.pointer (some ⟨b, 0, none⟩)] (wr.drewN k) fun e w' => e = .returned (.bool false) ∧ ∃ j, w' = (wr.drewN k).drewN j) := hide (fun k => by
          have := more_any ((unhide HR).drewN k)
          rw [hmo] at this
          exact this)
        have HT1 := hide (And.intro hf1 (And.intro hT1 hbl))
        clear hT1 hmo hf1 hbl
        go_wp2_with fail
        go_quiet ((go_at_call 102; exact Calls.quiet_of (unhide HM _)))
        go_wp2_with fail
        refine (unhide HM nq).mono ?_
        rintro en w5 ⟨rfl, k5, hw5⟩
        rw [World.drewN_drewN] at hw5
        generalize nq + k5 = k6 at hw5
        subst hw5
        go_wp2_with fail
        refine (fail_not 11 (p : Int) ((unhide HR).drewN k6) (unhide HT1).1).mono ?_
        rintro en w7 ⟨rfl, hw7⟩
        have hw8 := hw7.symm
        subst hw8
        clear hw7
        go_wp2
        refine bodyPost_end (res0 rfl _ _) rfl ?_
        refine ⟨rfl, (unhide HG).trans (grown_but (grown_drewN wr k6) _), ?_⟩
        rw [(unhide HT1).2.1]
        refine ⟨q, d2, (unhide HT1).1, ?_⟩
        rw [← (unhide HT1).2.2]
        exact (unhide HR).drewN k6

end Go.Proofs.YtodcfgbcigjjfaaDoor
