/-
  The document's 'closed', on things.
  The document's 'thing', by its first bytes, and its 'Piece'.
  The document's 'Piece' answers what the program's does.
-/
import Derived.Test.YtnamfjbfcbamjaaGreatDoorP03
import Derived.Test.YtnamfjbfcbamjaaGreatDoorP12
import Derived.Test.YtnamfjbfcbamjaaGreatDoorP07
namespace Go.Proofs.YtnamfjbfcbamjaaGreatDoor
open Go.RowKit
theorem results_at {fn : Func} {t : Tmp} (h : fn.results = #[.cell t 76]) (tmps : Array Value) (w : World) (b : Nat) (x y z : Value) (ht : tmps.getD t undef = .pointer (some ⟨b, 0, none⟩)) (hb : Blk w b 76 #[x, y, z]) :
    (results fn tmps).run Tryz.prog w = .ok (.agg #[x, y, z]) w := by
  have ht' : tmps[t]?.getD undef = .pointer (some ⟨b, 0, none⟩) := by simpa using ht
  have h0 := hb.cell 0 (v := x) rfl
  have h1 := hb.cell 1 (v := y) rfl
  have h2 := hb.cell 2 (v := z) rfl
  unfold results
  rw [h]
  simp [ht', go_sem, h0, h1, h2]
def AtV (s : ByteArray) : Rs → Value
  | .ok m => .agg #[.int .i64 ((s.size - m.length : Nat) : Int), .int .i64 0, .int .i64 0]
  | .err e m => .agg #[.int .i64 0, .int .i64 ((s.size - m.length : Nat) : Int), .int .i64 e]
theorem AtV_ok (s : ByteArray) (m : List UInt8) : AtV s (.ok m) = .agg #[.int .i64 ((s.size - m.length : Nat) : Int), .int .i64 0, .int .i64 0] := rfl
theorem AtV_err (s : ByteArray) (e : Int) (m : List UInt8) : AtV s (.err e m) = .agg #[.int .i64 0, .int .i64 ((s.size - m.length : Nat) : Int), .int .i64 e] := rfl
def RT (N : Nat) : Prop := ∀ (w : World) (s : ByteArray) (p d wh F : Nat), p < s.size → s.size ≤ 100000 → s.size ≤ p + N → wh ≤ 4 → d ≤ 40 → 3 * (s.size - p) + 3 ≤ F → ∀ (wv dv : Int), wv = (wh : Int) → dv = (d : Int) →
  Calls Tryz.prog 45 #[.string s, .int .i64 (p : Int), .int .i64 wv, .int .i64 dv] w fun e w' => e = .returned (AtV s (thg F (s.data.toList.drop p) wh d)) ∧ Below w.heap.size w w'
def Tail (s : ByteArray) : Rs → Prop
  | .ok r => ∃ q, s.data.toList.drop q = r ∧ q ≤ s.size
  | .err _ r => ∃ q, s.data.toList.drop q = r ∧ q ≤ s.size
theorem tail_ite {s : ByteArray} {c : Prop} [Decidable c] {x y : Rs} (hx : Tail s x) (hy : Tail s y) : Tail s (if c then x else y) := by
  split
  · exact hx
  · exact hy
theorem tail_drop {s : ByteArray} {q : Nat} {l : List UInt8} (h : s.data.toList.drop q = l) (k : Nat) : ∃ q', s.data.toList.drop q' = l.drop k ∧ q' ≤ s.size := by
  refine ⟨min (q + k) s.size, ?_, Nat.min_le_right _ _⟩
  rw [← h, List.drop_drop]
  rcases Nat.le_total (q + k) s.size with h1 | h1
  · rw [Nat.min_eq_left h1]
  · rw [Nat.min_eq_right h1, drop_nil (Nat.le_refl _), drop_nil h1]
theorem tail_le {s : ByteArray} {q : Nat} {l : List UInt8} (h : s.data.toList.drop q = l) : ∃ q', s.data.toList.drop q' = l ∧ q' ≤ s.size := by
  have := tail_drop h 0
  simpa using this
theorem dropWhile_drop (p : UInt8 → Bool) : ∀ l : List UInt8, ∃ k, l.dropWhile p = l.drop k
  | [] => ⟨0, rfl⟩
  | c :: l => by
    rw [List.dropWhile_cons]
    split
    · obtain ⟨k, hk⟩ := dropWhile_drop p l
      exact ⟨k + 1, hk⟩
    · exact ⟨0, rfl⟩
theorem c_tail (s : ByteArray) : ∀ f : Nat, (∀ l fr e wh d, (∃ q, s.data.toList.drop q = l) → (∃ q, s.data.toList.drop q = fr) → Tail s (cls f l fr e wh d)) ∧ (∀ l fr e wh d, (∃ q, s.data.toList.drop q = l) → (∃ q, s.data.toList.drop q = fr) → Tail s (lop f l fr e wh d)) ∧ (∀ l wh d, (∃ q, s.data.toList.drop q = l) → Tail s (thg f l wh d))
  | 0 => ⟨fun l fr e wh d ⟨q, h⟩ _ => by rw [cls]; exact tail_le h, fun l fr e wh d ⟨q, h⟩ _ => by rw [lop]; exact tail_le h, fun l wh d ⟨q, h⟩ => by rw [thg]; exact tail_le h⟩
  | f + 1 => by
    obtain ⟨iC, iL, iT⟩ := c_tail s f
    refine ⟨fun l fr e wh d hl hfr => ?_, fun l fr e wh d hl hfr => ?_, fun l wh d hl => ?_⟩
    · rw [cls_succ]
      obtain ⟨q, h⟩ := hfr
      exact tail_ite (tail_le h) (iL _ _ _ _ _ hl ⟨q, h⟩)
    · cases l with
      | nil =>
        rw [lop_nil]
        obtain ⟨q, h⟩ := hfr
        exact tail_le h
      | cons c r =>
        rw [lop_succ]
        obtain ⟨q, h⟩ := hl
        refine tail_ite (tail_drop h 1) ?_
        have h1 := iT (c :: r) wh d ⟨q, h⟩
        cases hq : thg f (c :: r) wh d with
        | ok r' =>
          rw [hq] at h1
          obtain ⟨q', h1, _⟩ := h1
          exact iL r' fr e wh d ⟨q', h1⟩ hfr
        | err x b =>
          rw [hq] at h1
          exact h1
    · obtain ⟨q, h⟩ := hl
      cases l with
      | nil => rw [thg]; exact tail_le h
      | cons c r =>
        rw [thg_succ]
        obtain ⟨q1, hr, _⟩ := tail_drop h 1
        have hr : s.data.toList.drop q1 = r := hr
        obtain ⟨q2, hr2, _⟩ := tail_drop hr 1
        have hok : Tail s (.ok r) := tail_le hr
        refine tail_ite (tail_drop hr 1) (tail_ite (tail_ite hok (iC _ _ _ _ _ ⟨q1, hr⟩ ⟨q, h⟩)) (tail_ite (tail_ite hok ?_) (tail_ite (tail_ite (iC _ _ _ _ _ ⟨q2, hr2⟩ ⟨q, h⟩) (tail_ite (iC _ _ _ _ _ ⟨q2, hr2⟩ ⟨q1, hr⟩) hok)) (tail_ite (tail_ite (iC _ _ _ _ _ ⟨q1, hr⟩ ⟨q, h⟩) hok) (tail_ite (tail_le h) hok)))))
        obtain ⟨k, hk⟩ := dropWhile_drop (fun x => x != 39) r
        obtain ⟨q3, hr3, _⟩ := tail_drop hr k
        rw [← hk] at hr3
        split
        · exact tail_le h
        · next x r' hx =>
          rw [hx] at hr3
          exact tail_drop hr3 1
theorem thg_tail {s : ByteArray} {F p wh d : Nat} {r : List UInt8} (h : thg F (s.data.toList.drop p) wh d = .ok r) : ∃ q, s.data.toList.drop q = r ∧ q ≤ s.size := by
  have := (c_tail s F).2.2 (s.data.toList.drop p) wh d ⟨p, rfl⟩
  rw [h] at this
  exact this
def CloI (w : World) (s : ByteArray) (fr : List UInt8) (e : UInt8) (wh d1 : Nat) (T : Rs) (i : Nat) (wr : World) : Prop :=
  Blk wr w.heap.size 76 #[.int .i64 0, .int .i64 0, .int .i64 0] ∧ Below w.heap.size w wr ∧ ∃ F, 3 * (s.size - i) + 4 ≤ F ∧ T = lop F (s.data.toList.drop i) fr e wh d1
theorem set3_grown (w : World) (b : Nat) (x0 x1 x2 : Value) : w.grownBy (((w.setCell ⟨b, 0, none⟩ x0).setCell ⟨b, 1, none⟩ x1).setCell ⟨b, 2, none⟩ x2) (some b) :=
  World.grownBy.trans (World.grownBy.trans (grown_setCell _ ⟨b, 0, none⟩ _) (grown_setCell _ ⟨b, 1, none⟩ _)) (grown_setCell _ ⟨b, 2, none⟩ _)
theorem set3_blk {w : World} {b : Nat} {t : TypeId} {a0 a1 a2 : Value} (h : Blk w b t #[a0, a1, a2]) (x0 x1 x2 : Value) : Blk (((w.setCell ⟨b, 0, none⟩ x0).setCell ⟨b, 1, none⟩ x1).setCell ⟨b, 2, none⟩ x2) b t #[x0, x1, x2] := ((h.set 0 x0).set 1 x1).set 2 x2
set_option maxRecDepth 20000 in
set_option maxHeartbeats 8000000 in
theorem rclosed_any {N : Nat} (hT : RT N) (w : World) (s : ByteArray) (i fr d wh F : Nat) (e : UInt8) (hi : i ≤ s.size) (hfr : fr ≤ s.size) (hs : s.size ≤ 100000) (hN : s.size ≤ i + N) (hwh : wh ≤ 4) (hd : d ≤ 40) (hF : 3 * (s.size - i) + 5 ≤ F) (iv fv wv dv ev : Int) (hiv : iv = (i : Int)) (hfv : fv = (fr : Int)) (hwv : wv = (wh : Int)) (hdv : dv = (d : Int)) (hev : ev = (e.toNat : Int)) :
    Calls Tryz.prog 64 #[.string s, .int .i64 iv, .int .i64 fv, .int .u8 ev, .int .i64 wv, .int .i64 dv] w fun en w' => en = .returned (AtV s (cls F (s.data.toList.drop i) (s.data.toList.drop fr) e wh d)) ∧ Below w.heap.size w w' := by
  subst hiv hfv hwv hdv
  obtain ⟨F, rfl⟩ : ∃ G, F = G + 1 := ⟨F - 1, by omega⟩
  rw [cls_succ]
  have HPL := hide (place_of (s := s) (p := fr) hfr)
  obtain ⟨frl, hfrl⟩ : ∃ x, x = s.data.toList.drop fr := ⟨_, rfl⟩
  rw [← hfrl] at HPL ⊢
  have HEV := hide hev
  clear hfrl hev
  by_cases h40 : 40 ≤ d
  · rw [if_pos h40]
    have h40' : (40 : Int) ≤ (d : Int) := by omega
    clear h40
    go_enter Tryz.func64, Tryz.ntmps64
    go_wp2
    first
      | refine bodyPost_ret (results_at rfl _ _ w.heap.size _ _ _ rfl (Blk.new w _ _)) rfl ?_
      | refine bodyPost_ret (results_at rfl _ _ w.heap.size _ _ _ rfl (set3_blk (Blk.new w _ _) _ _ _)) rfl ?_
    rw [AtV_err, unhide HPL]
    first
      | exact ⟨rfl, (Below.refl _ w).alloc (Nat.le_refl _) _⟩
      | exact ⟨rfl, ((Below.refl _ w).alloc (Nat.le_refl _) _).trans (below_some (set3_grown _ w.heap.size _ _ _) (by simp))⟩
  · rw [if_neg h40]
    have h40' : ¬ (40 : Int) ≤ (d : Int) := by omega
    obtain ⟨d1, hd1⟩ : ∃ x, x = d + 1 := ⟨_, rfl⟩
    rw [← hd1]
    have hwd : IntKind.i64.wrap ((d : Int) + 1) = (d1 : Int) := by rw [IntKind.wrap_i64]; omega
    have hd1l : d1 ≤ 40 := by omega
    have HI : Hid (CloI w s frl e wh d1 (lop F (s.data.toList.drop i) frl e wh d1) i (w.alloc (.cells #[.int .i64 0, .int .i64 0, .int .i64 0] 76))) := hide ⟨Blk.new w _ _, (Below.refl _ w).alloc (Nat.le_refl _) _, F, by omega, rfl⟩
    obtain ⟨T, hT0⟩ : ∃ x, x = lop F (s.data.toList.drop i) frl e wh d1 := ⟨_, rfl⟩
    rw [← hT0] at HI ⊢
    have HMT := hide hT
    clear hT0 hT hd1 h40 hF
    go_enter Tryz.func64, Tryz.ntmps64
    go_wp2_with fail
    go_loopw [1] (fun x wr => ∃ q : Nat, x = .int .i64 (q : Int) ∧ i ≤ q ∧ q ≤ s.size ∧ Hid (CloI w s frl e wh d1 T q wr)) (fun x _ => s.size - (intOf x).toNat)
    case atStart => exact ⟨i, rfl, Nat.le_refl _, hi, HI⟩
    case round =>
      clear HI
      obtain ⟨q, rfl, hiq, hqs, HI⟩ := hrel
      obtain ⟨hB, hW, F1, hF1, hT1⟩ := unhide HI
      clear HI
      have z0 := hB.frozen 0
      have z1 := hB.frozen 1
      have z2 := hB.frozen 2
      have y0 := hB.cell 0 (v := .int .i64 0) rfl
      have y1 := hB.cell 1 (v := .int .i64 0) rfl
      have y2 := hB.cell 2 (v := .int .i64 0) rfl
      have HB := hide hB
      have HW := hide hW
      obtain ⟨F1, rfl⟩ : ∃ G, F1 = G + 1 := ⟨F1 - 1, by omega⟩
      by_cases hq : q < s.size
      · have hq' : (q : Int) < (s.size : Int) := by omega
        rw [drop_at hq, lop_succ] at hT1
        by_cases hbe : s[q] = e
        · rw [if_pos hbe] at hT1
          have hbv : (s[q].toNat : Int) = ev := by rw [hbe, unhide HEV]
          obtain ⟨q1, hq1⟩ : ∃ x, x = q + 1 := ⟨_, rfl⟩
          have hw1 : IntKind.i64.wrap ((q : Int) + 1) = (q1 : Int) := by rw [IntKind.wrap_i64]; omega
          have HT1 : Hid (AtV s T = .agg #[.int .i64 (q1 : Int), .int .i64 0, .int .i64 0]) := hide (by rw [hT1, AtV_ok, ← hq1, place_of (by omega)])
          clear hT1 hbe hq1 hB hW
          go_wp2
          refine bodyPost_ret (results_at rfl _ _ w.heap.size _ _ _ rfl (set3_blk (unhide HB) _ _ _)) rfl ?_
          rw [unhide HT1]
          exact ⟨rfl, (unhide HW).trans (below_some (set3_grown wr w.heap.size _ _ _) (unhide HW).size)⟩
        · rw [if_neg hbe, ← drop_at hq] at hT1
          have hbv : ¬ (s[q].toNat : Int) = ev := by
            rw [unhide HEV]
            intro e'
            exact hbe (UInt8.toNat_inj.1 (by omega))
          have HTH := hide (unhide HMT wr s q d1 wh F1 hq hs (by omega) hwh hd1l (by omega) _ _ rfl rfl)
          have hlen1 := thg_len (F1 - 1) s[q] (s.data.toList.drop (q + 1)) wh d1
          rw [← drop_at hq, show F1 - 1 + 1 = F1 by omega] at hlen1
          have hnz := (c_nz F1).2.2 (s.data.toList.drop q) wh d1
          have hdl : (s.data.toList.drop (q + 1)).length = s.size - (q + 1) := by rw [List.length_drop, data_len]
          rcases hth : thg F1 (s.data.toList.drop q) wh d1 with r' | ⟨x, m⟩
          · rw [hth] at HTH hT1 hlen1
            have hl2 : r'.length ≤ (s.data.toList.drop (q + 1)).length := hlen1
            rw [AtV_ok] at HTH
            obtain ⟨q2, hq2⟩ : ∃ x, x = s.size - r'.length := ⟨_, rfl⟩
            rw [← hq2] at HTH
            have hdr2 : s.data.toList.drop q2 = r' := by
              obtain ⟨q3, hq3, hq3l⟩ := thg_tail hth
              rw [← hq3] at hq2 ⊢
              rw [place_of hq3l] at hq2
              rw [hq2]
            have HN : Hid (∀ W, Below wr.heap.size wr W → CloI w s frl e wh d1 T q2 W) := hide (fun W hbW => ⟨(unhide HB).below hbW (unhide HB).lt, (unhide HW).trans (hbW.mono (unhide HW).size), F1, by omega, by rw [hT1, hdr2]⟩)
            have hmm : q < q2 ∧ q2 ≤ s.size := by omega
            clear hT1 hbe hB hW hlen1 hnz hdl hth hl2 hq2 hdr2 z0 z1 z2 y0 y1 y2
            go_wp2_with fail
            refine (unhide HTH).mono ?_
            rintro en w5 ⟨rfl, b5⟩
            have B5 := hide b5
            clear b5
            go_wp2
            go_roundw
            case rel => exact ⟨q2, rfl, by omega, hmm.2, hide (unhide HN _ ((unhide B5).trans (((Below.refl _ w5).alloc (Nat.le_refl _) _).mono (unhide B5).size)))⟩
            case measure => simp [intOf]; omega
          · rw [hth] at HTH hT1 hnz
            rw [AtV_err] at HTH
            have hx : ¬ x = 0 := hnz
            have HT1 : Hid (AtV s T = .agg #[.int .i64 0, .int .i64 ((s.size - m.length : Nat) : Int), .int .i64 x]) := hide (by rw [hT1, AtV_err])
            obtain ⟨bb, hbb⟩ : ∃ y : Int, y = ((s.size - m.length : Nat) : Int) := ⟨_, rfl⟩
            rw [← hbb] at HTH HT1
            clear hT1 hbe hB hW hlen1 hnz hdl hth hbb z0 z1 z2 y0 y1 y2
            go_wp2_with fail
            refine (unhide HTH).mono ?_
            rintro en w5 ⟨rfl, b5⟩
            have B5 := hide b5
            have h5 := (unhide HB).below b5 (unhide HB).lt
            have hne : w.heap.size ≠ w5.heap.size := by have := h5.lt; omega
            have h6 := h5.alloc (.cells #[.int .i64 0, .int .i64 bb, .int .i64 x] 76)
            have z0 := h6.frozen 0
            have z1 := h6.frozen 1
            have z2 := h6.frozen 2
            have y0 := h6.cell 0 (v := .int .i64 0) rfl
            have y1 := h6.cell 1 (v := .int .i64 0) rfl
            have y2 := h6.cell 2 (v := .int .i64 0) rfl
            have H6 := hide h6
            clear b5 h5 h6
            go_wp2
            refine bodyPost_ret (results_at rfl _ _ w.heap.size _ _ _ rfl (set3_blk (unhide H6) _ _ _)) rfl ?_
            rw [unhide HT1]
            exact ⟨rfl, ((unhide HW).trans ((unhide B5).mono (unhide HW).size)).trans ((((Below.refl _ w5).alloc (Nat.le_refl _) _).mono (by have := (unhide HW).size; have := (unhide B5).size; omega)).trans (below_some (set3_grown _ w.heap.size _ _ _) (Nat.le_of_lt (unhide H6).lt)))⟩
      · have hq' : ¬ (q : Int) < (s.size : Int) := by omega
        rw [drop_nil (by omega), lop_nil] at hT1
        have HT1 : Hid (AtV s T = .agg #[.int .i64 0, .int .i64 (fr : Int), .int .i64 11]) := hide (by rw [hT1, AtV_err, unhide HPL])
        clear hT1 hB hW
        go_wp2
        refine bodyPost_ret (results_at rfl _ _ w.heap.size _ _ _ rfl (set3_blk (unhide HB) _ _ _)) rfl ?_
        rw [unhide HT1]
        exact ⟨rfl, (unhide HW).trans (below_some (set3_grown wr w.heap.size _ _ _) (unhide HW).size)⟩
end Go.Proofs.YtnamfjbfcbamjaaGreatDoor
namespace Go.Proofs.YtnamfjbfcbamjaaGreatDoor
open Go.RowKit
theorem at_new {w : World} {x0 x1 x2 : Value} : Below w.heap.size w (w.alloc (.cells #[x0, x1, x2] 76)) := (Below.refl _ w).alloc (Nat.le_refl _) _
set_option maxRecDepth 20000 in
set_option maxHeartbeats 8000000 in
theorem rthing_92 (w : World) (s : ByteArray) (p d wh : Nat) (r : List UInt8) (hm : s.data.toList.drop p = 92 :: r) (hs : s.size ≤ 100000) (hw5 : wh = 0 ∨ wh = 1 ∨ wh = 2 ∨ wh = 3 ∨ wh = 4) (wv dv : Int) (hwv : wv = (wh : Int)) (hdv : dv = (d : Int)) :
    Calls Tryz.prog 45 #[.string s, .int .i64 (p : Int), .int .i64 wv, .int .i64 dv] w fun e w' => e = .returned (AtV s (.ok (r.drop 1))) ∧ Below w.heap.size w w' := by
  obtain ⟨hlt, hd1⟩ := drop_step hm
  have hc := get_of hm hlt
  have hlt' : (p : Int) < (s.size : Int) := by omega
  have HM := hide hm
  have HD1 := hide hd1
  subst hdv
  have hcv : (s[p].toNat : Int) = 92 := by rw [hc]; rfl
  obtain ⟨q2, hq2⟩ : ∃ x, x = p + 2 := ⟨_, rfl⟩
  have hwq : IntKind.i64.wrap ((p : Int) + 2) = (q2 : Int) := by rw [IntKind.wrap_i64]; omega
  obtain ⟨q, hq⟩ : ∃ x, x = min q2 s.size := ⟨_, rfl⟩
  have hmn : min (q2 : Int) (s.size : Int) = (q : Int) := by omega
  have hdq : s.data.toList.drop q = r.drop 1 := by
    by_cases hb : p + 2 ≤ s.size
    · rw [show q = p + 1 + 1 by omega, ← List.drop_drop, hd1]
    · have : r.length = 0 := by rw [← hd1, List.length_drop, data_len]; omega
      rw [List.eq_nil_of_length_eq_zero this, drop_nil (show s.size ≤ q by omega)]
      rfl
  have HV : Hid (AtV s (.ok (r.drop 1)) = .agg #[.int .i64 (q : Int), .int .i64 0, .int .i64 0]) := hide (by rw [AtV_ok, ← hdq, place_of (by omega)])
  clear hq hq2 hdq
  clear hm hd1 hc
  rcases hw5 with rfl | rfl | rfl | rfl | rfl
  all_goals
    subst hwv
  all_goals
    go_enter Tryz.func45, Tryz.ntmps45
    go_wp2
    first
      | refine bodyPost_ret (results_at rfl _ _ w.heap.size _ _ _ rfl (Blk.new w _ _)) rfl ?_
      | refine bodyPost_ret (results_at rfl _ _ w.heap.size _ _ _ rfl (set3_blk (Blk.new w _ _) _ _ _)) rfl ?_
    rw [unhide HV]
    first
      | exact ⟨rfl, at_new⟩
      | exact ⟨rfl, at_new.trans (below_some (set3_grown _ w.heap.size _ _ _) (by simp))⟩
set_option maxRecDepth 20000 in
set_option maxHeartbeats 8000000 in
theorem rthing_34 (w : World) (s : ByteArray) (p d wh F : Nat) (r : List UInt8) (hm : s.data.toList.drop p = 34 :: r) (hs : s.size ≤ 100000) (hw5 : wh = 0 ∨ wh = 1 ∨ wh = 2 ∨ wh = 3 ∨ wh = 4) (hd : d ≤ 40) (h1 : wh ≠ 1) {N : Nat} (hT : RT N) (hN : s.size ≤ p + 1 + N) (hF : 3 * (s.size - p) + 2 ≤ F) (wv dv : Int) (hwv : wv = (wh : Int)) (hdv : dv = (d : Int)) :
    Calls Tryz.prog 45 #[.string s, .int .i64 (p : Int), .int .i64 wv, .int .i64 dv] w fun e w' => e = .returned (AtV s (cls F r (34 :: r) 34 1 d)) ∧ Below w.heap.size w w' := by
  obtain ⟨hlt, hd1⟩ := drop_step hm
  have hc := get_of hm hlt
  have hlt' : (p : Int) < (s.size : Int) := by omega
  have HM := hide hm
  have HD1 := hide hd1
  subst hdv
  have hcv : (s[p].toNat : Int) = 34 := by rw [hc]; rfl
  have hrl : r.length = s.size - (p + 1) := by rw [← hd1, List.length_drop, data_len]
  have HCL := hide (fun W => rclosed_any hT W s (p + 1) (p) d 1 F 34 (by omega) (by omega) hs (by omega) (by decide) hd (by omega))
  obtain ⟨T, hTe⟩ : ∃ x, x = cls F r (34 :: r) 34 1 d := ⟨_, rfl⟩
  have hcv2 : cls F (s.data.toList.drop (p + 1)) (s.data.toList.drop (p)) 34 1 d = T := by rw [hTe]; rw [hm, hd1]
  rw [hcv2] at HCL
  rw [← hTe]
  obtain ⟨q1, hq1⟩ : ∃ x, x = p + 1 := ⟨_, rfl⟩
  have hwq1 : IntKind.i64.wrap ((p : Int) + 1) = (q1 : Int) := by rw [IntKind.wrap_i64]; omega
  rw [← hq1] at HCL
  clear hTe hcv2 hq1
  clear hm hd1 hc
  rcases hw5 with rfl | rfl | rfl | rfl | rfl
  all_goals
    subst hwv
    first
      | exact absurd rfl h1
      | skip
  all_goals
    go_enter Tryz.func45, Tryz.ntmps45
    go_wp2_with fail
    refine (unhide HCL _ _ _ _ _ _ rfl rfl rfl rfl rfl).mono ?_
    rintro en w5 ⟨rfl, b5⟩
    have h5 := (Blk.new w 76 #[.int .i64 0, .int .i64 0, .int .i64 0]).below b5 (by simp)
    have B5 := hide (at_new.trans (b5.mono (by simp)))
    have H5 := hide h5
    rcases T with rr | ⟨ee, rr⟩
    all_goals
      have z0 := (unhide H5).frozen 0
      have z1 := (unhide H5).frozen 1
      have z2 := (unhide H5).frozen 2
      have y0 := (unhide H5).cell 0 (v := .int .i64 0) rfl
      have y1 := (unhide H5).cell 1 (v := .int .i64 0) rfl
      have y2 := (unhide H5).cell 2 (v := .int .i64 0) rfl
      first
        | rw [AtV_ok]
        | rw [AtV_err]
      obtain ⟨bb, hbb⟩ : ∃ y : Int, y = ((s.size - rr.length : Nat) : Int) := ⟨_, rfl⟩
      rw [← hbb]
      have HBB := hide hbb
      clear hbb
      go_wp2
      refine bodyPost_ret (results_at rfl _ _ w.heap.size _ _ _ rfl (set3_blk (unhide H5) _ _ _)) rfl ?_
      refine ⟨?_, (unhide B5).trans (below_some (set3_grown w5 w.heap.size _ _ _) (Nat.le_of_lt (unhide H5).lt))⟩
      first
        | rw [AtV_ok, ← unhide HBB]
        | rw [AtV_err, ← unhide HBB]
set_option maxRecDepth 20000 in
set_option maxHeartbeats 8000000 in
theorem rthing_34in (w : World) (s : ByteArray) (p d wh : Nat) (r : List UInt8) (hm : s.data.toList.drop p = 34 :: r) (hs : s.size ≤ 100000) (hw5 : wh = 0 ∨ wh = 1 ∨ wh = 2 ∨ wh = 3 ∨ wh = 4) (h1 : wh = 1) (wv dv : Int) (hwv : wv = (wh : Int)) (hdv : dv = (d : Int)) :
    Calls Tryz.prog 45 #[.string s, .int .i64 (p : Int), .int .i64 wv, .int .i64 dv] w fun e w' => e = .returned (AtV s (.ok r)) ∧ Below w.heap.size w w' := by
  obtain ⟨hlt, hd1⟩ := drop_step hm
  have hc := get_of hm hlt
  have hlt' : (p : Int) < (s.size : Int) := by omega
  have HM := hide hm
  have HD1 := hide hd1
  subst hdv
  have hcv : (s[p].toNat : Int) = 34 := by rw [hc]; rfl
  obtain ⟨q, hq⟩ : ∃ x, x = p + 1 := ⟨_, rfl⟩
  have hwq : IntKind.i64.wrap ((p : Int) + 1) = (q : Int) := by rw [IntKind.wrap_i64]; omega
  have HV : Hid (AtV s (.ok r) = .agg #[.int .i64 (q : Int), .int .i64 0, .int .i64 0]) := hide (by rw [AtV_ok, ← hd1, place_of (by omega), hq])
  clear hq
  clear hm hd1 hc
  rcases hw5 with rfl | rfl | rfl | rfl | rfl
  all_goals
    subst hwv
    first
      | exact absurd h1 (by decide)
      | skip
  all_goals
    go_enter Tryz.func45, Tryz.ntmps45
    go_wp2
    first
      | refine bodyPost_ret (results_at rfl _ _ w.heap.size _ _ _ rfl (Blk.new w _ _)) rfl ?_
      | refine bodyPost_ret (results_at rfl _ _ w.heap.size _ _ _ rfl (set3_blk (Blk.new w _ _) _ _ _)) rfl ?_
    rw [unhide HV]
    first
      | exact ⟨rfl, at_new⟩
      | exact ⟨rfl, at_new.trans (below_some (set3_grown _ w.heap.size _ _ _) (by simp))⟩
set_option maxRecDepth 20000 in
set_option maxHeartbeats 8000000 in
theorem rthing_40 (w : World) (s : ByteArray) (p d wh F : Nat) (r : List UInt8) (hm : s.data.toList.drop p = 40 :: r) (hs : s.size ≤ 100000) (hw5 : wh = 0 ∨ wh = 1 ∨ wh = 2 ∨ wh = 3 ∨ wh = 4) (hd : d ≤ 40) (h4 : wh = 4) {N : Nat} (hT : RT N) (hN : s.size ≤ p + 1 + N) (hF : 3 * (s.size - p) + 2 ≤ F) (wv dv : Int) (hwv : wv = (wh : Int)) (hdv : dv = (d : Int)) :
    Calls Tryz.prog 45 #[.string s, .int .i64 (p : Int), .int .i64 wv, .int .i64 dv] w fun e w' => e = .returned (AtV s (cls F r (40 :: r) 41 4 d)) ∧ Below w.heap.size w w' := by
  obtain ⟨hlt, hd1⟩ := drop_step hm
  have hc := get_of hm hlt
  have hlt' : (p : Int) < (s.size : Int) := by omega
  have HM := hide hm
  have HD1 := hide hd1
  subst hdv
  have hcv : (s[p].toNat : Int) = 40 := by rw [hc]; rfl
  have hrl : r.length = s.size - (p + 1) := by rw [← hd1, List.length_drop, data_len]
  have HCL := hide (fun W => rclosed_any hT W s (p + 1) (p) d 4 F 41 (by omega) (by omega) hs (by omega) (by decide) hd (by omega))
  obtain ⟨T, hTe⟩ : ∃ x, x = cls F r (40 :: r) 41 4 d := ⟨_, rfl⟩
  have hcv2 : cls F (s.data.toList.drop (p + 1)) (s.data.toList.drop (p)) 41 4 d = T := by rw [hTe]; rw [hm, hd1]
  rw [hcv2] at HCL
  rw [← hTe]
  obtain ⟨q1, hq1⟩ : ∃ x, x = p + 1 := ⟨_, rfl⟩
  have hwq1 : IntKind.i64.wrap ((p : Int) + 1) = (q1 : Int) := by rw [IntKind.wrap_i64]; omega
  rw [← hq1] at HCL
  clear hTe hcv2 hq1
  clear hm hd1 hc
  rcases hw5 with rfl | rfl | rfl | rfl | rfl
  all_goals
    subst hwv
    first
      | exact absurd h4 (by decide)
      | skip
  all_goals
    go_enter Tryz.func45, Tryz.ntmps45
    go_wp2_with fail
    refine (unhide HCL _ _ _ _ _ _ rfl rfl rfl rfl rfl).mono ?_
    rintro en w5 ⟨rfl, b5⟩
    have h5 := (Blk.new w 76 #[.int .i64 0, .int .i64 0, .int .i64 0]).below b5 (by simp)
    have B5 := hide (at_new.trans (b5.mono (by simp)))
    have H5 := hide h5
    rcases T with rr | ⟨ee, rr⟩
    all_goals
      have z0 := (unhide H5).frozen 0
      have z1 := (unhide H5).frozen 1
      have z2 := (unhide H5).frozen 2
      have y0 := (unhide H5).cell 0 (v := .int .i64 0) rfl
      have y1 := (unhide H5).cell 1 (v := .int .i64 0) rfl
      have y2 := (unhide H5).cell 2 (v := .int .i64 0) rfl
      first
        | rw [AtV_ok]
        | rw [AtV_err]
      obtain ⟨bb, hbb⟩ : ∃ y : Int, y = ((s.size - rr.length : Nat) : Int) := ⟨_, rfl⟩
      rw [← hbb]
      have HBB := hide hbb
      clear hbb
      go_wp2
      refine bodyPost_ret (results_at rfl _ _ w.heap.size _ _ _ rfl (set3_blk (unhide H5) _ _ _)) rfl ?_
      refine ⟨?_, (unhide B5).trans (below_some (set3_grown w5 w.heap.size _ _ _) (Nat.le_of_lt (unhide H5).lt))⟩
      first
        | rw [AtV_ok, ← unhide HBB]
        | rw [AtV_err, ← unhide HBB]
set_option maxRecDepth 20000 in
set_option maxHeartbeats 8000000 in
theorem rthing_40out (w : World) (s : ByteArray) (p d wh : Nat) (r : List UInt8) (hm : s.data.toList.drop p = 40 :: r) (hs : s.size ≤ 100000) (hw5 : wh = 0 ∨ wh = 1 ∨ wh = 2 ∨ wh = 3 ∨ wh = 4) (h4 : wh ≠ 4) (wv dv : Int) (hwv : wv = (wh : Int)) (hdv : dv = (d : Int)) :
    Calls Tryz.prog 45 #[.string s, .int .i64 (p : Int), .int .i64 wv, .int .i64 dv] w fun e w' => e = .returned (AtV s (.ok r)) ∧ Below w.heap.size w w' := by
  obtain ⟨hlt, hd1⟩ := drop_step hm
  have hc := get_of hm hlt
  have hlt' : (p : Int) < (s.size : Int) := by omega
  have HM := hide hm
  have HD1 := hide hd1
  subst hdv
  have hcv : (s[p].toNat : Int) = 40 := by rw [hc]; rfl
  obtain ⟨q, hq⟩ : ∃ x, x = p + 1 := ⟨_, rfl⟩
  have hwq : IntKind.i64.wrap ((p : Int) + 1) = (q : Int) := by rw [IntKind.wrap_i64]; omega
  have HV : Hid (AtV s (.ok r) = .agg #[.int .i64 (q : Int), .int .i64 0, .int .i64 0]) := hide (by rw [AtV_ok, ← hd1, place_of (by omega), hq])
  clear hq
  clear hm hd1 hc
  rcases hw5 with rfl | rfl | rfl | rfl | rfl
  all_goals
    subst hwv
    first
      | exact absurd rfl h4
      | skip
  all_goals
    go_enter Tryz.func45, Tryz.ntmps45
    go_wp2
    first
      | refine bodyPost_ret (results_at rfl _ _ w.heap.size _ _ _ rfl (Blk.new w _ _)) rfl ?_
      | refine bodyPost_ret (results_at rfl _ _ w.heap.size _ _ _ rfl (set3_blk (Blk.new w _ _) _ _ _)) rfl ?_
    rw [unhide HV]
    first
      | exact ⟨rfl, at_new⟩
      | exact ⟨rfl, at_new.trans (below_some (set3_grown _ w.heap.size _ _ _) (by simp))⟩
set_option maxRecDepth 20000 in
set_option maxHeartbeats 8000000 in
theorem rthing_36a (w : World) (s : ByteArray) (p d wh F : Nat) (r : List UInt8) (hm : s.data.toList.drop p = 36 :: r) (hs : s.size ≤ 100000) (hw5 : wh = 0 ∨ wh = 1 ∨ wh = 2 ∨ wh = 3 ∨ wh = 4) (hd : d ≤ 40) (hh : r.head? = some 123) {N : Nat} (hT : RT N) (hN : s.size ≤ p + 1 + N) (hF : 3 * (s.size - p) + 2 ≤ F) (wv dv : Int) (hwv : wv = (wh : Int)) (hdv : dv = (d : Int)) :
    Calls Tryz.prog 45 #[.string s, .int .i64 (p : Int), .int .i64 wv, .int .i64 dv] w fun e w' => e = .returned (AtV s (cls F (r.drop 1) (36 :: r) 125 (if quot wh then 3 else 2) d)) ∧ Below w.heap.size w w' := by
  obtain ⟨hlt, hd1⟩ := drop_step hm
  have hc := get_of hm hlt
  have hlt' : (p : Int) < (s.size : Int) := by omega
  have HM := hide hm
  have HD1 := hide hd1
  subst hdv
  have hcv : (s[p].toNat : Int) = 36 := by rw [hc]; rfl
  have hrl : r.length = s.size - (p + 1) := by rw [← hd1, List.length_drop, data_len]
  have hr0 : 0 < r.length := by rw [head_cons hh]; simp
  have hp1 : p + 1 < s.size := by omega
  obtain ⟨pn, hpn⟩ : ∃ x, x = p + 1 := ⟨_, rfl⟩
  have hwpn : IntKind.i64.wrap ((p : Int) + 1) = (pn : Int) := by rw [IntKind.wrap_i64]; omega
  have hpnl : (pn : Int) < (s.size : Int) := by omega
  have hpnl' : pn < s.size := by omega
  have hnx : (s[pn].toNat : Int) = 123 := by
    have h1 : s.data.toList.drop pn = 123 :: r.drop 1 := by rw [hpn, hd1]; exact head_cons hh
    rw [get_of h1 hpnl']
    rfl
  have HCL := hide (fun W => rclosed_any hT W s (p + 2) (p) d (if quot wh then 3 else 2) F 125 (by omega) (by omega) hs (by omega) (by split <;> decide) hd (by omega))
  obtain ⟨T, hTe⟩ : ∃ x, x = cls F (r.drop 1) (36 :: r) 125 (if quot wh then 3 else 2) d := ⟨_, rfl⟩
  have hcv2 : cls F (s.data.toList.drop (p + 2)) (s.data.toList.drop (p)) 125 (if quot wh then 3 else 2) d = T := by rw [hTe]; rw [hm, show p + 2 = p + 1 + 1 from rfl, ← List.drop_drop, hd1]
  rw [hcv2] at HCL
  rw [← hTe]
  obtain ⟨q1, hq1⟩ : ∃ x, x = p + 2 := ⟨_, rfl⟩
  have hwq1 : IntKind.i64.wrap ((p : Int) + 2) = (q1 : Int) := by rw [IntKind.wrap_i64]; omega
  rw [← hq1] at HCL
  clear hTe hcv2 hq1 hpn hh
  clear hm hd1 hc
  rcases hw5 with rfl | rfl | rfl | rfl | rfl
  all_goals
    subst hwv
  all_goals
    go_enter Tryz.func45, Tryz.ntmps45
    go_wp2_with fail
    refine (unhide HCL _ _ _ _ _ _ rfl rfl rfl rfl rfl).mono ?_
    rintro en w5 ⟨rfl, b5⟩
    have h5 := (Blk.new w 76 #[.int .i64 0, .int .i64 0, .int .i64 0]).below b5 (by simp)
    have B5 := hide (at_new.trans (b5.mono (by simp)))
    have H5 := hide h5
    rcases T with rr | ⟨ee, rr⟩
    all_goals
      have z0 := (unhide H5).frozen 0
      have z1 := (unhide H5).frozen 1
      have z2 := (unhide H5).frozen 2
      have y0 := (unhide H5).cell 0 (v := .int .i64 0) rfl
      have y1 := (unhide H5).cell 1 (v := .int .i64 0) rfl
      have y2 := (unhide H5).cell 2 (v := .int .i64 0) rfl
      first
        | rw [AtV_ok]
        | rw [AtV_err]
      obtain ⟨bb, hbb⟩ : ∃ y : Int, y = ((s.size - rr.length : Nat) : Int) := ⟨_, rfl⟩
      rw [← hbb]
      have HBB := hide hbb
      clear hbb
      go_wp2
      refine bodyPost_ret (results_at rfl _ _ w.heap.size _ _ _ rfl (set3_blk (unhide H5) _ _ _)) rfl ?_
      refine ⟨?_, (unhide B5).trans (below_some (set3_grown w5 w.heap.size _ _ _) (Nat.le_of_lt (unhide H5).lt))⟩
      first
        | rw [AtV_ok, ← unhide HBB]
        | rw [AtV_err, ← unhide HBB]
set_option maxRecDepth 20000 in
set_option maxHeartbeats 8000000 in
theorem rthing_36b (w : World) (s : ByteArray) (p d wh F : Nat) (r : List UInt8) (hm : s.data.toList.drop p = 36 :: r) (hs : s.size ≤ 100000) (hw5 : wh = 0 ∨ wh = 1 ∨ wh = 2 ∨ wh = 3 ∨ wh = 4) (hd : d ≤ 40) (hh : r.head? = some 40) {N : Nat} (hT : RT N) (hN : s.size ≤ p + 1 + N) (hF : 3 * (s.size - p) + 2 ≤ F) (wv dv : Int) (hwv : wv = (wh : Int)) (hdv : dv = (d : Int)) :
    Calls Tryz.prog 45 #[.string s, .int .i64 (p : Int), .int .i64 wv, .int .i64 dv] w fun e w' => e = .returned (AtV s (cls F (r.drop 1) r 41 4 d)) ∧ Below w.heap.size w w' := by
  obtain ⟨hlt, hd1⟩ := drop_step hm
  have hc := get_of hm hlt
  have hlt' : (p : Int) < (s.size : Int) := by omega
  have HM := hide hm
  have HD1 := hide hd1
  subst hdv
  have hcv : (s[p].toNat : Int) = 36 := by rw [hc]; rfl
  have hrl : r.length = s.size - (p + 1) := by rw [← hd1, List.length_drop, data_len]
  have hr0 : 0 < r.length := by rw [head_cons hh]; simp
  have hp1 : p + 1 < s.size := by omega
  obtain ⟨pn, hpn⟩ : ∃ x, x = p + 1 := ⟨_, rfl⟩
  have hwpn : IntKind.i64.wrap ((p : Int) + 1) = (pn : Int) := by rw [IntKind.wrap_i64]; omega
  have hpnl : (pn : Int) < (s.size : Int) := by omega
  have hpnl' : pn < s.size := by omega
  have hnx : (s[pn].toNat : Int) = 40 := by
    have h1 : s.data.toList.drop pn = 40 :: r.drop 1 := by rw [hpn, hd1]; exact head_cons hh
    rw [get_of h1 hpnl']
    rfl
  have HCL := hide (fun W => rclosed_any hT W s (p + 2) (p + 1) d 4 F 41 (by omega) (by omega) hs (by omega) (by decide) hd (by omega))
  obtain ⟨T, hTe⟩ : ∃ x, x = cls F (r.drop 1) r 41 4 d := ⟨_, rfl⟩
  have hcv2 : cls F (s.data.toList.drop (p + 2)) (s.data.toList.drop (p + 1)) 41 4 d = T := by rw [hTe]; rw [show p + 2 = p + 1 + 1 from rfl, ← List.drop_drop, hd1]
  rw [hcv2] at HCL
  rw [← hTe]
  obtain ⟨q1, hq1⟩ : ∃ x, x = p + 2 := ⟨_, rfl⟩
  have hwq1 : IntKind.i64.wrap ((p : Int) + 2) = (q1 : Int) := by rw [IntKind.wrap_i64]; omega
  rw [← hq1] at HCL
  rw [← hpn] at HCL
  clear hTe hcv2 hq1 hpn hh
  clear hm hd1 hc
  rcases hw5 with rfl | rfl | rfl | rfl | rfl
  all_goals
    subst hwv
  all_goals
    go_enter Tryz.func45, Tryz.ntmps45
    go_wp2_with fail
    refine (unhide HCL _ _ _ _ _ _ rfl rfl rfl rfl rfl).mono ?_
    rintro en w5 ⟨rfl, b5⟩
    have h5 := (Blk.new w 76 #[.int .i64 0, .int .i64 0, .int .i64 0]).below b5 (by simp)
    have B5 := hide (at_new.trans (b5.mono (by simp)))
    have H5 := hide h5
    rcases T with rr | ⟨ee, rr⟩
    all_goals
      have z0 := (unhide H5).frozen 0
      have z1 := (unhide H5).frozen 1
      have z2 := (unhide H5).frozen 2
      have y0 := (unhide H5).cell 0 (v := .int .i64 0) rfl
      have y1 := (unhide H5).cell 1 (v := .int .i64 0) rfl
      have y2 := (unhide H5).cell 2 (v := .int .i64 0) rfl
      first
        | rw [AtV_ok]
        | rw [AtV_err]
      obtain ⟨bb, hbb⟩ : ∃ y : Int, y = ((s.size - rr.length : Nat) : Int) := ⟨_, rfl⟩
      rw [← hbb]
      have HBB := hide hbb
      clear hbb
      go_wp2
      refine bodyPost_ret (results_at rfl _ _ w.heap.size _ _ _ rfl (set3_blk (unhide H5) _ _ _)) rfl ?_
      refine ⟨?_, (unhide B5).trans (below_some (set3_grown w5 w.heap.size _ _ _) (Nat.le_of_lt (unhide H5).lt))⟩
      first
        | rw [AtV_ok, ← unhide HBB]
        | rw [AtV_err, ← unhide HBB]
set_option maxRecDepth 20000 in
set_option maxHeartbeats 8000000 in
theorem rthing_36end (w : World) (s : ByteArray) (p d wh : Nat) (r : List UInt8) (hm : s.data.toList.drop p = 36 :: r) (hs : s.size ≤ 100000) (hw5 : wh = 0 ∨ wh = 1 ∨ wh = 2 ∨ wh = 3 ∨ wh = 4) (hh : r = []) (wv dv : Int) (hwv : wv = (wh : Int)) (hdv : dv = (d : Int)) :
    Calls Tryz.prog 45 #[.string s, .int .i64 (p : Int), .int .i64 wv, .int .i64 dv] w fun e w' => e = .returned (AtV s (.ok r)) ∧ Below w.heap.size w w' := by
  obtain ⟨hlt, hd1⟩ := drop_step hm
  have hc := get_of hm hlt
  have hlt' : (p : Int) < (s.size : Int) := by omega
  have HM := hide hm
  have HD1 := hide hd1
  subst hdv
  have hcv : (s[p].toNat : Int) = 36 := by rw [hc]; rfl
  obtain ⟨q, hq⟩ : ∃ x, x = p + 1 := ⟨_, rfl⟩
  have hwq : IntKind.i64.wrap ((p : Int) + 1) = (q : Int) := by rw [IntKind.wrap_i64]; omega
  have HV : Hid (AtV s (.ok r) = .agg #[.int .i64 (q : Int), .int .i64 0, .int .i64 0]) := hide (by rw [AtV_ok, ← hd1, place_of (by omega), hq])
  clear hq
  have hrl : r.length = s.size - (p + 1) := by rw [← hd1, List.length_drop, data_len]
  have hl0 : ¬ (q : Int) < (s.size : Int) := by
    have : r.length = 0 := by rw [hh]; rfl
    have hq1 := hwq
    rw [IntKind.wrap_i64] at hq1
    omega
  clear hh hrl
  clear hm hd1 hc
  rcases hw5 with rfl | rfl | rfl | rfl | rfl
  all_goals
    subst hwv
  all_goals
    go_enter Tryz.func45, Tryz.ntmps45
    go_wp2
    first
      | refine bodyPost_ret (results_at rfl _ _ w.heap.size _ _ _ rfl (Blk.new w _ _)) rfl ?_
      | refine bodyPost_ret (results_at rfl _ _ w.heap.size _ _ _ rfl (set3_blk (Blk.new w _ _) _ _ _)) rfl ?_
    rw [unhide HV]
    first
      | exact ⟨rfl, at_new⟩
      | exact ⟨rfl, at_new.trans (below_some (set3_grown _ w.heap.size _ _ _) (by simp))⟩
set_option maxRecDepth 20000 in
set_option maxHeartbeats 8000000 in
theorem rthing_36c (w : World) (s : ByteArray) (p d wh : Nat) (r : List UInt8) (hm : s.data.toList.drop p = 36 :: r) (hs : s.size ≤ 100000) (hw5 : wh = 0 ∨ wh = 1 ∨ wh = 2 ∨ wh = 3 ∨ wh = 4) (x : UInt8) (r1 : List UInt8) (hx : r = x :: r1) (hh1 : x ≠ 123) (hh2 : x ≠ 40) (wv dv : Int) (hwv : wv = (wh : Int)) (hdv : dv = (d : Int)) :
    Calls Tryz.prog 45 #[.string s, .int .i64 (p : Int), .int .i64 wv, .int .i64 dv] w fun e w' => e = .returned (AtV s (.ok r)) ∧ Below w.heap.size w w' := by
  obtain ⟨hlt, hd1⟩ := drop_step hm
  have hc := get_of hm hlt
  have hlt' : (p : Int) < (s.size : Int) := by omega
  have HM := hide hm
  have HD1 := hide hd1
  subst hdv
  have hcv : (s[p].toNat : Int) = 36 := by rw [hc]; rfl
  obtain ⟨q, hq⟩ : ∃ x, x = p + 1 := ⟨_, rfl⟩
  have hwq : IntKind.i64.wrap ((p : Int) + 1) = (q : Int) := by rw [IntKind.wrap_i64]; omega
  have HV : Hid (AtV s (.ok r) = .agg #[.int .i64 (q : Int), .int .i64 0, .int .i64 0]) := hide (by rw [AtV_ok, ← hd1, place_of (by omega), hq])
  have hdq : s.data.toList.drop q = x :: r1 := by rw [hq, hd1, hx]
  have hql := (drop_step hdq).1
  have hql' : (q : Int) < (s.size : Int) := by omega
  have hnx1 : ¬ (s[q].toNat : Int) = 123 := by
    rw [get_of hdq hql]
    intro e
    exact hh1 (UInt8.toNat_inj.1 (show x.toNat = 123 by omega))
  have hnx2 : ¬ (s[q].toNat : Int) = 40 := by
    rw [get_of hdq hql]
    intro e
    exact hh2 (UInt8.toNat_inj.1 (show x.toNat = 40 by omega))
  clear hq hdq hx hh1 hh2
  clear hm hd1 hc
  rcases hw5 with rfl | rfl | rfl | rfl | rfl
  all_goals
    subst hwv
  all_goals
    go_enter Tryz.func45, Tryz.ntmps45
    go_wp2
    first
      | refine bodyPost_ret (results_at rfl _ _ w.heap.size _ _ _ rfl (Blk.new w _ _)) rfl ?_
      | refine bodyPost_ret (results_at rfl _ _ w.heap.size _ _ _ rfl (set3_blk (Blk.new w _ _) _ _ _)) rfl ?_
    rw [unhide HV]
    first
      | exact ⟨rfl, at_new⟩
      | exact ⟨rfl, at_new.trans (below_some (set3_grown _ w.heap.size _ _ _) (by simp))⟩
set_option maxRecDepth 20000 in
set_option maxHeartbeats 8000000 in
theorem rthing_96 (w : World) (s : ByteArray) (p d wh : Nat) (r : List UInt8) (hm : s.data.toList.drop p = 96 :: r) (hw5 : wh = 0 ∨ wh = 1 ∨ wh = 2 ∨ wh = 3 ∨ wh = 4) (wv dv : Int) (hwv : wv = (wh : Int)) (hdv : dv = (d : Int)) :
    Calls Tryz.prog 45 #[.string s, .int .i64 (p : Int), .int .i64 wv, .int .i64 dv] w fun e w' => e = .returned (AtV s (.err 10 (96 :: r))) ∧ Below w.heap.size w w' := by
  obtain ⟨hlt, hd1⟩ := drop_step hm
  have hc := get_of hm hlt
  have hlt' : (p : Int) < (s.size : Int) := by omega
  have HM := hide hm
  have HD1 := hide hd1
  subst hdv
  have hcv : (s[p].toNat : Int) = 96 := by rw [hc]; rfl
  have HV : Hid (AtV s (.err 10 (96 :: r)) = .agg #[.int .i64 0, .int .i64 (p : Int), .int .i64 10]) := hide (by rw [AtV_err, ← hm, place_of (by omega)])
  clear hm hd1 hc
  rcases hw5 with rfl | rfl | rfl | rfl | rfl
  all_goals
    subst hwv
  all_goals
    go_enter Tryz.func45, Tryz.ntmps45
    go_wp2
    first
      | refine bodyPost_ret (results_at rfl _ _ w.heap.size _ _ _ rfl (Blk.new w _ _)) rfl ?_
      | refine bodyPost_ret (results_at rfl _ _ w.heap.size _ _ _ rfl (set3_blk (Blk.new w _ _) _ _ _)) rfl ?_
    rw [unhide HV]
    first
      | exact ⟨rfl, at_new⟩
      | exact ⟨rfl, at_new.trans (below_some (set3_grown _ w.heap.size _ _ _) (by simp))⟩
set_option maxRecDepth 20000 in
set_option maxHeartbeats 8000000 in
theorem rthing_else (w : World) (s : ByteArray) (p d wh : Nat) (c : UInt8) (r : List UInt8) (hm : s.data.toList.drop p = c :: r) (hs : s.size ≤ 100000) (hw5 : wh = 0 ∨ wh = 1 ∨ wh = 2 ∨ wh = 3 ∨ wh = 4) (n1 : c ≠ 92) (n2 : c ≠ 34) (n3 : c ≠ 39) (n4 : c ≠ 36) (n5 : c ≠ 40) (n6 : c ≠ 96) (wv dv : Int) (hwv : wv = (wh : Int)) (hdv : dv = (d : Int)) :
    Calls Tryz.prog 45 #[.string s, .int .i64 (p : Int), .int .i64 wv, .int .i64 dv] w fun e w' => e = .returned (AtV s (.ok r)) ∧ Below w.heap.size w w' := by
  obtain ⟨hlt, hd1⟩ := drop_step hm
  have hc := get_of hm hlt
  have hlt' : (p : Int) < (s.size : Int) := by omega
  have HM := hide hm
  have HD1 := hide hd1
  subst hdv
  have nb : ∀ k : UInt8, c ≠ k → ¬ (c.toNat : Int) = (k.toNat : Int) := fun k h e => h (UInt8.toNat_inj.1 (by omega))
  have nb92 := nb 92 n1
  have nb34 := nb 34 n2
  have nb39 := nb 39 n3
  have nb36 := nb 36 n4
  have nb40 := nb 40 n5
  have nb96 := nb 96 n6
  have f92 : ¬ (s[p].toNat : Int) = 92 := by rw [hc]; exact nb92
  have f39 : ¬ (s[p].toNat : Int) = 39 := by rw [hc]; exact nb39
  have f34 : ¬ (s[p].toNat : Int) = 34 := by rw [hc]; exact nb34
  have f40 : ¬ (s[p].toNat : Int) = 40 := by rw [hc]; exact nb40
  have f36 : ¬ (s[p].toNat : Int) = 36 := by rw [hc]; exact nb36
  have f96 : ¬ (s[p].toNat : Int) = 96 := by rw [hc]; exact nb96
  obtain ⟨q, hq⟩ : ∃ x, x = p + 1 := ⟨_, rfl⟩
  have hwq : IntKind.i64.wrap ((p : Int) + 1) = (q : Int) := by rw [IntKind.wrap_i64]; omega
  have HV : Hid (AtV s (.ok r) = .agg #[.int .i64 (q : Int), .int .i64 0, .int .i64 0]) := hide (by rw [AtV_ok, ← hd1, place_of (by omega), hq])
  clear hq
  clear hm hd1 hc nb nb92 nb34 nb39 nb36 nb40 nb96 n1 n2 n3 n4 n5 n6
  rcases hw5 with rfl | rfl | rfl | rfl | rfl
  all_goals
    subst hwv
  all_goals
    go_enter Tryz.func45, Tryz.ntmps45
    go_wp2
    first
      | refine bodyPost_ret (results_at rfl _ _ w.heap.size _ _ _ rfl (Blk.new w _ _)) rfl ?_
      | refine bodyPost_ret (results_at rfl _ _ w.heap.size _ _ _ rfl (set3_blk (Blk.new w _ _) _ _ _)) rfl ?_
    rw [unhide HV]
    first
      | exact ⟨rfl, at_new⟩
      | exact ⟨rfl, at_new.trans (below_some (set3_grown _ w.heap.size _ _ _) (by simp))⟩
set_option maxRecDepth 20000 in
set_option maxHeartbeats 8000000 in
theorem rthing_39in (w : World) (s : ByteArray) (p d wh : Nat) (r : List UInt8) (hm : s.data.toList.drop p = 39 :: r) (hs : s.size ≤ 100000) (hw5 : wh = 0 ∨ wh = 1 ∨ wh = 2 ∨ wh = 3 ∨ wh = 4) (hqt : quot wh = true) (wv dv : Int) (hwv : wv = (wh : Int)) (hdv : dv = (d : Int)) :
    Calls Tryz.prog 45 #[.string s, .int .i64 (p : Int), .int .i64 wv, .int .i64 dv] w fun e w' => e = .returned (AtV s (.ok r)) ∧ Below w.heap.size w w' := by
  obtain ⟨hlt, hd1⟩ := drop_step hm
  have hc := get_of hm hlt
  have hlt' : (p : Int) < (s.size : Int) := by omega
  have HM := hide hm
  have HD1 := hide hd1
  subst hdv
  have hcv : (s[p].toNat : Int) = 39 := by rw [hc]; rfl
  obtain ⟨q, hq⟩ : ∃ x, x = p + 1 := ⟨_, rfl⟩
  have hwq : IntKind.i64.wrap ((p : Int) + 1) = (q : Int) := by rw [IntKind.wrap_i64]; omega
  have HV : Hid (AtV s (.ok r) = .agg #[.int .i64 (q : Int), .int .i64 0, .int .i64 0]) := hide (by rw [AtV_ok, ← hd1, place_of (by omega), hq])
  clear hq
  clear hm hd1 hc
  rcases hw5 with rfl | rfl | rfl | rfl | rfl
  all_goals
    subst hwv
    first
      | exact absurd hqt (by decide)
      | skip
  all_goals
    go_enter Tryz.func45, Tryz.ntmps45
    go_wp2
    first
      | refine bodyPost_ret (results_at rfl _ _ w.heap.size _ _ _ rfl (Blk.new w _ _)) rfl ?_
      | refine bodyPost_ret (results_at rfl _ _ w.heap.size _ _ _ rfl (set3_blk (Blk.new w _ _) _ _ _)) rfl ?_
    rw [unhide HV]
    first
      | exact ⟨rfl, at_new⟩
      | exact ⟨rfl, at_new.trans (below_some (set3_grown _ w.heap.size _ _ _) (by simp))⟩
set_option maxRecDepth 20000 in
set_option maxHeartbeats 8000000 in
theorem rthing_39 (w : World) (s : ByteArray) (p d wh : Nat) (r : List UInt8) (hm : s.data.toList.drop p = 39 :: r) (hs : s.size ≤ 100000) (hw5 : wh = 0 ∨ wh = 1 ∨ wh = 2 ∨ wh = 3 ∨ wh = 4) (hqt : quot wh = false) (wv dv : Int) (hwv : wv = (wh : Int)) (hdv : dv = (d : Int)) :
    Calls Tryz.prog 45 #[.string s, .int .i64 (p : Int), .int .i64 wv, .int .i64 dv] w fun e w' => e = .returned (AtV s (match r.dropWhile (fun x => x != 39) with
      | [] => .err 11 (39 :: r)
      | _ :: r' => .ok r')) ∧ Below w.heap.size w w' := by
  obtain ⟨hlt, hd1⟩ := drop_step hm
  have hc := get_of hm hlt
  have hlt' : (p : Int) < (s.size : Int) := by omega
  have HM := hide hm
  have HD1 := hide hd1
  subst hdv
  have hcv : (s[p].toNat : Int) = 39 := by rw [hc]; rfl
  obtain ⟨D, hD⟩ : ∃ x, x = r.dropWhile (fun x => x != 39) := ⟨_, rfl⟩
  obtain ⟨T, hTe⟩ : ∃ x, x = (match D with
      | [] => Rs.err 11 (39 :: r)
      | _ :: r' => .ok r') := ⟨_, rfl⟩
  rw [← hD, ← hTe]
  obtain ⟨q0, hq0⟩ : ∃ x, x = p + 1 := ⟨_, rfl⟩
  have hwq0 : IntKind.i64.wrap ((p : Int) + 1) = (q0 : Int) := by rw [IntKind.wrap_i64]; omega
  have hq0s : q0 ≤ s.size := by omega
  have HI : Hid ((s.data.toList.drop q0).dropWhile (fun x => x != 39) = D) := hide (by rw [hq0, hd1, hD])
  have HTE := hide hTe
  clear hq0 hD hTe
  clear hm hd1 hc
  rcases hw5 with rfl | rfl | rfl | rfl | rfl
  all_goals
    subst hwv
    first
      | exact absurd hqt (by decide)
      | skip
  all_goals
    go_enter Tryz.func45, Tryz.ntmps45
    go_wp2_with fail
    go_loop [11] (fun x => ∃ k : Nat, x = .int .i64 (k : Int) ∧ k ≤ s.size ∧ Hid ((s.data.toList.drop k).dropWhile (fun x => x != 39) = D)) (fun x => s.size - (intOf x).toNat)
    case atStart => exact ⟨q0, rfl, hq0s, HI⟩
    case round =>
      clear HI
      obtain ⟨k, rfl, hks, HI⟩ := hrel
      obtain ⟨k1, hk1⟩ : ∃ x, x = k + 1 := ⟨_, rfl⟩
      by_cases hk : k < s.size
      · have hk' : (k : Int) < (s.size : Int) := by omega
        have hwk : IntKind.i64.wrap ((k : Int) + 1) = (k1 : Int) := by rw [IntKind.wrap_i64]; omega
        have hI := unhide HI
        rw [drop_at hk, List.dropWhile_cons, ← hk1] at hI
        have hk1s : k1 ≤ s.size ∧ k < k1 := by omega
        by_cases hb : s[k] = 39
        · have hbv : (s[k].toNat : Int) = 39 := by rw [hb]; rfl
          rw [if_neg (by rw [hb]; decide)] at hI
          have HV : Hid (AtV s T = .agg #[.int .i64 (k1 : Int), .int .i64 0, .int .i64 0]) := hide (by
            rw [unhide HTE, ← hI]
            show AtV s (.ok (s.data.toList.drop k1)) = _
            rw [AtV_ok, place_of hk1s.1])
          clear hI hb hk1
          go_wp2
          first
            | refine bodyPost_ret (results_at rfl _ _ w.heap.size _ _ _ rfl (Blk.new w _ _)) rfl ?_
            | refine bodyPost_ret (results_at rfl _ _ w.heap.size _ _ _ rfl (set3_blk (Blk.new w _ _) _ _ _)) rfl ?_
          rw [unhide HV]
          first
            | exact ⟨rfl, at_new⟩
            | exact ⟨rfl, at_new.trans (below_some (set3_grown _ w.heap.size _ _ _) (by simp))⟩
        · have hbv : ¬ (s[k].toNat : Int) = 39 := fun e => hb (UInt8.toNat_inj.1 (show s[k].toNat = 39 by omega))
          rw [if_pos (by simpa using hb)] at hI
          have HI2 := hide hI
          clear hI hb hk1
          go_wp2
          go_round
          case rel => exact ⟨k1, rfl, hk1s.1, HI2⟩
          case measure => simp [intOf]; omega
      · have hk' : ¬ (k : Int) < (s.size : Int) := by omega
        have HV : Hid (AtV s T = .agg #[.int .i64 0, .int .i64 (p : Int), .int .i64 11]) := hide (by
          have hI := unhide HI
          rw [drop_nil (show s.size ≤ k by omega)] at hI
          rw [unhide HTE, ← hI]
          show AtV s (.err 11 (39 :: r)) = _
          rw [AtV_err, ← unhide HM, place_of (by omega)])
        clear hk1
        go_wp2
        first
          | refine bodyPost_ret (results_at rfl _ _ w.heap.size _ _ _ rfl (Blk.new w _ _)) rfl ?_
          | refine bodyPost_ret (results_at rfl _ _ w.heap.size _ _ _ rfl (set3_blk (Blk.new w _ _) _ _ _)) rfl ?_
        rw [unhide HV]
        first
          | exact ⟨rfl, at_new⟩
          | exact ⟨rfl, at_new.trans (below_some (set3_grown _ w.heap.size _ _ _) (by simp))⟩
theorem rthing_step {M : Nat} (hT : ∀ N, N < M → RT N) : RT M := by
  intro w s p d wh F hp hs hN hwh hd hF wv dv hwv hdv
  have hw5 : wh = 0 ∨ wh = 1 ∨ wh = 2 ∨ wh = 3 ∨ wh = 4 := by omega
  obtain ⟨F, rfl⟩ : ∃ G, F = G + 1 := ⟨F - 1, by omega⟩
  have hm := drop_at hp
  rw [hm, thg_succ]
  obtain ⟨c, hc⟩ : ∃ x, x = s[p] := ⟨_, rfl⟩
  obtain ⟨r, hr⟩ : ∃ x, x = s.data.toList.drop (p + 1) := ⟨_, rfl⟩
  rw [← hc, ← hr] at hm ⊢
  have hMT := hT (M - 1) (by omega)
  by_cases e1 : c = 92
  · subst e1
    rw [if_pos rfl]
    exact rthing_92 w s p d wh r hm hs hw5 wv dv hwv hdv
  rw [if_neg e1]
  by_cases e2 : c = 34
  · subst e2
    rw [if_pos rfl]
    by_cases h1 : wh = 1
    · rw [if_pos h1]
      exact rthing_34in w s p d wh r hm hs hw5 h1 wv dv hwv hdv
    · rw [if_neg h1]
      exact rthing_34 w s p d wh F r hm hs hw5 hd h1 hMT (by omega) (by omega) wv dv hwv hdv
  rw [if_neg e2]
  by_cases e3 : c = 39
  · subst e3
    rw [if_pos rfl]
    rcases Bool.eq_false_or_eq_true (quot wh) with h1 | h1
    · rw [h1, if_pos rfl]
      exact rthing_39in w s p d wh r hm hs hw5 h1 wv dv hwv hdv
    · rw [h1, if_neg (by decide)]
      exact rthing_39 w s p d wh r hm hs hw5 h1 wv dv hwv hdv
  rw [if_neg e3]
  by_cases e4 : c = 36
  · subst e4
    rw [if_pos rfl]
    by_cases h1 : r.head? = some 123
    · rw [if_pos h1]
      exact rthing_36a w s p d wh F r hm hs hw5 hd h1 hMT (by omega) (by omega) wv dv hwv hdv
    · rw [if_neg h1]
      by_cases h2 : r.head? = some 40
      · rw [if_pos h2]
        exact rthing_36b w s p d wh F r hm hs hw5 hd h2 hMT (by omega) (by omega) wv dv hwv hdv
      · rw [if_neg h2]
        rcases hr1 : r with _ | ⟨x, r1⟩
        · rw [hr1] at hm
          exact rthing_36end w s p d wh [] hm hs hw5 rfl wv dv hwv hdv
        · rw [hr1] at hm h1 h2
          exact rthing_36c w s p d wh (x :: r1) hm hs hw5 x r1 rfl (fun e => h1 (by rw [e]; rfl)) (fun e => h2 (by rw [e]; rfl)) wv dv hwv hdv
  rw [if_neg e4]
  by_cases e5 : c = 40
  · subst e5
    rw [if_pos rfl]
    by_cases h1 : wh = 4
    · rw [if_pos h1]
      exact rthing_40 w s p d wh F r hm hs hw5 hd h1 hMT (by omega) (by omega) wv dv hwv hdv
    · rw [if_neg h1]
      exact rthing_40out w s p d wh r hm hs hw5 h1 wv dv hwv hdv
  rw [if_neg e5]
  by_cases e6 : c = 96
  · subst e6
    rw [if_pos rfl]
    exact rthing_96 w s p d wh r hm hw5 wv dv hwv hdv
  rw [if_neg e6]
  exact rthing_else w s p d wh c r hm hs hw5 e1 e2 e3 e4 e5 e6 wv dv hwv hdv
theorem rthing_all (M : Nat) : RT M := by
  induction M using Nat.strongRecOn with
  | ind M ih => exact rthing_step ih
end Go.Proofs.YtnamfjbfcbamjaaGreatDoor
namespace Go.Proofs.YtnamfjbfcbamjaaGreatDoor
open Go.RowKit
theorem AtV_pair (s : ByteArray) (T : Rs) : AtV s T = .agg #[.int .i64 (match T with
      | .ok r => (((s.size - r.length : Nat) : Int), (0 : Int), (0 : Int))
      | .err e m => (0, ((s.size - m.length : Nat) : Int), e)).1, .int .i64 (match T with
      | .ok r => (((s.size - r.length : Nat) : Int), (0 : Int), (0 : Int))
      | .err e m => (0, ((s.size - m.length : Nat) : Int), e)).2.1, .int .i64 (match T with
      | .ok r => (((s.size - r.length : Nat) : Int), (0 : Int), (0 : Int))
      | .err e m => (0, ((s.size - m.length : Nat) : Int), e)).2.2] := by
  cases T <;> rfl
set_option maxRecDepth 20000 in
set_option maxHeartbeats 4000000 in
theorem rpiece_any (s : ByteArray) (a : Int) (q : Bool) (w : World) (hs : s.size ≤ 100000) :
    Calls Tryz.prog 30 #[.string s, .int .i64 a, .bool q] w fun e w' => e = .returned (.tuple #[.int .i64 (pieceS s a q).1, .int .i64 (pieceS s a q).2.1, .int .i64 (pieceS s a q).2.2]) ∧ Below w.heap.size w w' := by
  by_cases h0 : a < 0
  · have hp : pieceS s a q = (0, 0, 1) := by unfold pieceS; rw [if_pos (.inl h0)]
    rw [hp]
    clear hp
    go_enter Tryz.func30, Tryz.ntmps30
    go_wp2
    go_ret3
    exact ⟨rfl, Below.refl _ _⟩
  by_cases h1 : (s.size : Int) ≤ a
  · have hp : pieceS s a q = (0, 0, 1) := by unfold pieceS; rw [if_pos (.inr h1)]
    rw [hp]
    clear hp
    go_enter Tryz.func30, Tryz.ntmps30
    go_wp2
    go_ret3
    exact ⟨rfl, Below.refl _ _⟩
  obtain ⟨p, rfl⟩ : ∃ p : Nat, a = (p : Int) := ⟨a.toNat, by omega⟩
  have hpl : p < s.size := by omega
  have hpe : pieceS s (p : Int) q = match thg (3 * s.size + 3) (s.data.toList.drop p) (if q then 1 else 0) 0 with
    | .ok r => (((s.size - r.length : Nat) : Int), 0, 0)
    | .err e m => (0, ((s.size - m.length : Nat) : Int), e) := by
    unfold pieceS
    rw [if_neg (by omega)]
    rfl
  obtain ⟨wh, hwh⟩ : ∃ x : Nat, x = (if q then 1 else 0) := ⟨_, rfl⟩
  rw [← hwh] at hpe
  have HTH := hide (fun (wv dv : Int) (h1 : wv = (wh : Int)) (h2 : dv = ((0 : Nat) : Int)) => rthing_all s.size w s p 0 wh (3 * s.size + 3) hpl hs (by omega) (by rw [hwh]; split <;> decide) (by omega) (by omega) wv dv h1 h2)
  rw [AtV_pair, ← hpe] at HTH
  obtain ⟨⟨x, y, z⟩, hT⟩ : ∃ x, x = pieceS s (p : Int) q := ⟨_, rfl⟩
  rw [← hT] at HTH ⊢
  have HWH := hide hwh
  clear hpe hT hwh
  cases q
  · have hw0 : wh = 0 := unhide HWH
    subst hw0
    go_enter Tryz.func30, Tryz.ntmps30
    go_wp2_with fail
    refine (unhide HTH 0 0 rfl rfl).mono ?_
    rintro en w5 ⟨rfl, b5⟩
    have HB5 := hide b5
    clear b5
    go_wp2_with fail
    go_quiet (fail)
    go_wp2
    go_ret3
    exact ⟨rfl, (unhide HB5).trans ((((Below.refl _ w5).alloc (Nat.le_refl _) _).mono (unhide HB5).size).trans ((below_of_grown (grown_drewN _ _)).mono (by have := (unhide HB5).size; simp; omega)))⟩
  · have hw0 : wh = 1 := unhide HWH
    subst hw0
    go_enter Tryz.func30, Tryz.ntmps30
    go_wp2_with fail
    refine (unhide HTH 1 0 rfl rfl).mono ?_
    rintro en w5 ⟨rfl, b5⟩
    have HB5 := hide b5
    clear b5
    go_wp2_with fail
    go_quiet (fail)
    go_wp2
    go_ret3
    exact ⟨rfl, (unhide HB5).trans ((((Below.refl _ w5).alloc (Nat.le_refl _) _).mono (unhide HB5).size).trans ((below_of_grown (grown_drewN _ _)).mono (by have := (unhide HB5).size; simp; omega)))⟩
end Go.Proofs.YtnamfjbfcbamjaaGreatDoor
