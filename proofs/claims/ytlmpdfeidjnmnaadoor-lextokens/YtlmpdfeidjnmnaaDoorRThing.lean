/-
  The document's 'closed', on things.
-/
import Derived.Test.YtlmpdfeidjnmnaaDoorThing
namespace Go.Proofs.YtlmpdfeidjnmnaaDoor
open Go.RowKit

theorem results_at {fn : Func} {t : Tmp} (h : fn.results = #[.cell t 48]) (tmps : Array Value) (w : World) (b : Nat) (x y z : Value) (ht : tmps.getD t undef = .pointer (some ⟨b, 0, none⟩)) (hb : Blk w b 48 #[x, y, z]) :
    (results fn tmps).run Tryd.prog w = .ok (.agg #[x, y, z]) w := by
  have ht' : tmps[t]?.getD undef = .pointer (some ⟨b, 0, none⟩) := by simpa using ht
  have h0 := hb.cell 0 (v := x) rfl
  have h1 := hb.cell 1 (v := y) rfl
  have h2 := hb.cell 2 (v := z) rfl
  unfold results
  rw [h]
  simp [ht', go_sem, h0, h1, h2]
/-- What the document answers of a thing: how far it goes, what is to blame, what is wrong. -/
def AtV (s : ByteArray) : Rs → Value
  | .ok m => .agg #[.int .i64 ((s.size - m.length : Nat) : Int), .int .i64 0, .int .i64 0]
  | .err e m => .agg #[.int .i64 0, .int .i64 ((s.size - m.length : Nat) : Int), .int .i64 e]
theorem AtV_ok (s : ByteArray) (m : List UInt8) : AtV s (.ok m) = .agg #[.int .i64 ((s.size - m.length : Nat) : Int), .int .i64 0, .int .i64 0] := rfl
theorem AtV_err (s : ByteArray) (e : Int) (m : List UInt8) : AtV s (.err e m) = .agg #[.int .i64 0, .int .i64 ((s.size - m.length : Nat) : Int), .int .i64 e] := rfl
/-- The document's 'thing' reads as it should, of what has up to N bytes. -/
def RT (N : Nat) : Prop := ∀ (w : World) (s : ByteArray) (p d wh F : Nat), p < s.size → s.size ≤ 100000 → s.size ≤ p + N → wh ≤ 4 → d ≤ 40 → 3 * (s.size - p) + 3 ≤ F → ∀ (wv dv : Int), wv = (wh : Int) → dv = (d : Int) →
  Calls Tryd.prog 17 #[.string s, .int .i64 (p : Int), .int .i64 wv, .int .i64 dv] w fun e w' => e = .returned (AtV s (thg F (s.data.toList.drop p) wh d)) ∧ Below w.heap.size w w'

/-- What is left is the text's end. -/
def Tail (s : ByteArray) : Rs → Prop
  | .ok r => ∃ q, s.data.toList.drop q = r ∧ q ≤ s.size
  | .err _ r => ∃ q, s.data.toList.drop q = r ∧ q ≤ s.size
theorem tail_ite {s : ByteArray} {c : Prop} [Decidable c] {x y : Rs} (hx : Tail s x) (hy : Tail s y) : Tail s (if c then x else y) := by
  split
  · exact hx
  · exact hy
theorem tail_drop {s : ByteArray} {q : Nat} {l : List UInt8} (h : s.data.toList.drop q = l) (k : Nat) : ∃ q', s.data.toList.drop q' = l.drop k ∧ q' ≤ s.size := by
  refine ⟨min (q + k) s.size, ?_, Nat.min_le_right _ _⟩
  rw [← h, List.drop_drop]
  rcases Nat.le_total (q + k) s.size with h1 | h1
  · rw [Nat.min_eq_left h1]
  · rw [Nat.min_eq_right h1, drop_nil (Nat.le_refl _), drop_nil h1]
theorem tail_le {s : ByteArray} {q : Nat} {l : List UInt8} (h : s.data.toList.drop q = l) : ∃ q', s.data.toList.drop q' = l ∧ q' ≤ s.size := by
  have := tail_drop h 0
  simpa using this
theorem dropWhile_drop (p : UInt8 → Bool) : ∀ l : List UInt8, ∃ k, l.dropWhile p = l.drop k
  | [] => ⟨0, rfl⟩
  | c :: l => by
    rw [List.dropWhile_cons]
    split
    · obtain ⟨k, hk⟩ := dropWhile_drop p l
      exact ⟨k + 1, hk⟩
    · exact ⟨0, rfl⟩
theorem c_tail (s : ByteArray) : ∀ f : Nat, (∀ l fr e wh d, (∃ q, s.data.toList.drop q = l) → (∃ q, s.data.toList.drop q = fr) → Tail s (cls f l fr e wh d)) ∧ (∀ l fr e wh d, (∃ q, s.data.toList.drop q = l) → (∃ q, s.data.toList.drop q = fr) → Tail s (lop f l fr e wh d)) ∧ (∀ l wh d, (∃ q, s.data.toList.drop q = l) → Tail s (thg f l wh d))
  | 0 => ⟨fun l fr e wh d ⟨q, h⟩ _ => by rw [cls]; exact tail_le h, fun l fr e wh d ⟨q, h⟩ _ => by rw [lop]; exact tail_le h, fun l wh d ⟨q, h⟩ => by rw [thg]; exact tail_le h⟩
  | f + 1 => by
    obtain ⟨iC, iL, iT⟩ := c_tail s f
    refine ⟨fun l fr e wh d hl hfr => ?_, fun l fr e wh d hl hfr => ?_, fun l wh d hl => ?_⟩
    · rw [cls_succ]
      obtain ⟨q, h⟩ := hfr
      exact tail_ite (tail_le h) (iL _ _ _ _ _ hl ⟨q, h⟩)
    · cases l with
      | nil =>
        rw [lop_nil]
        obtain ⟨q, h⟩ := hfr
        exact tail_le h
      | cons c r =>
        rw [lop_succ]
        obtain ⟨q, h⟩ := hl
        refine tail_ite (tail_drop h 1) ?_
        have h1 := iT (c :: r) wh d ⟨q, h⟩
        cases hq : thg f (c :: r) wh d with
        | ok r' =>
          rw [hq] at h1
          obtain ⟨q', h1, _⟩ := h1
          exact iL r' fr e wh d ⟨q', h1⟩ hfr
        | err x b =>
          rw [hq] at h1
          exact h1
    · obtain ⟨q, h⟩ := hl
      cases l with
      | nil => rw [thg]; exact tail_le h
      | cons c r =>
        rw [thg_succ]
        obtain ⟨q1, hr, _⟩ := tail_drop h 1
        have hr : s.data.toList.drop q1 = r := hr
        obtain ⟨q2, hr2, _⟩ := tail_drop hr 1
        have hok : Tail s (.ok r) := tail_le hr
        refine tail_ite (tail_drop hr 1) (tail_ite (tail_ite hok (iC _ _ _ _ _ ⟨q1, hr⟩ ⟨q, h⟩)) (tail_ite (tail_ite hok ?_) (tail_ite (tail_ite (iC _ _ _ _ _ ⟨q2, hr2⟩ ⟨q, h⟩) (tail_ite (iC _ _ _ _ _ ⟨q2, hr2⟩ ⟨q1, hr⟩) hok)) (tail_ite (tail_ite (iC _ _ _ _ _ ⟨q1, hr⟩ ⟨q, h⟩) hok) (tail_ite (tail_le h) hok)))))
        obtain ⟨k, hk⟩ := dropWhile_drop (fun x => x != 39) r
        obtain ⟨q3, hr3, _⟩ := tail_drop hr k
        rw [← hk] at hr3
        split
        · exact tail_le h
        · next x r' hx =>
          rw [hx] at hr3
          exact tail_drop hr3 1
theorem thg_tail {s : ByteArray} {F p wh d : Nat} {r : List UInt8} (h : thg F (s.data.toList.drop p) wh d = .ok r) : ∃ q, s.data.toList.drop q = r ∧ q ≤ s.size := by
  have := (c_tail s F).2.2 (s.data.toList.drop p) wh d ⟨p, rfl⟩
  rw [h] at this
  exact this

/-- What is wrong with a thing is no nought. -/
def NZ : Rs → Prop
  | .ok _ => True
  | .err e _ => e ≠ 0
theorem nz_ite {c : Prop} [Decidable c] {x y : Rs} (hx : NZ x) (hy : NZ y) : NZ (if c then x else y) := by
  split
  · exact hx
  · exact hy
theorem c_nz : ∀ f : Nat, (∀ l fr e wh d, NZ (cls f l fr e wh d)) ∧ (∀ l fr e wh d, NZ (lop f l fr e wh d)) ∧ (∀ l wh d, NZ (thg f l wh d))
  | 0 => ⟨fun l fr e wh d => by rw [cls]; trivial, fun l fr e wh d => by rw [lop]; trivial, fun l wh d => by rw [thg]; trivial⟩
  | f + 1 => by
    obtain ⟨iC, iL, iT⟩ := c_nz f
    refine ⟨fun l fr e wh d => ?_, fun l fr e wh d => ?_, fun l wh d => ?_⟩
    · rw [cls_succ]
      exact nz_ite (show (3 : Int) ≠ 0 by decide) (iL _ _ _ _ _)
    · cases l with
      | nil => rw [lop_nil]; exact (show (11 : Int) ≠ 0 by decide)
      | cons c r =>
        rw [lop_succ]
        refine nz_ite trivial ?_
        have h1 := iT (c :: r) wh d
        cases hq : thg f (c :: r) wh d with
        | ok r' => exact iL r' fr e wh d
        | err x b =>
          rw [hq] at h1
          exact h1
    · cases l with
      | nil => rw [thg]; trivial
      | cons c r =>
        rw [thg_succ]
        refine nz_ite trivial (nz_ite (nz_ite trivial (iC _ _ _ _ _)) (nz_ite (nz_ite trivial ?_) (nz_ite (nz_ite (iC _ _ _ _ _) (nz_ite (iC _ _ _ _ _) trivial)) (nz_ite (nz_ite (iC _ _ _ _ _) trivial) (nz_ite (show (10 : Int) ≠ 0 by decide) trivial)))))
        split
        · exact (show (11 : Int) ≠ 0 by decide)
        · trivial

/-- What is known in the loop of 'closed'. -/
def CloI (w : World) (s : ByteArray) (fr : List UInt8) (e : UInt8) (wh d1 : Nat) (T : Rs) (i : Nat) (wr : World) : Prop :=
  Blk wr w.heap.size 48 #[.int .i64 0, .int .i64 0, .int .i64 0] ∧ Below w.heap.size w wr ∧ ∃ F, 3 * (s.size - i) + 4 ≤ F ∧ T = lop F (s.data.toList.drop i) fr e wh d1

theorem set3_grown (w : World) (b : Nat) (x0 x1 x2 : Value) : w.grownBy (((w.setCell ⟨b, 0, none⟩ x0).setCell ⟨b, 1, none⟩ x1).setCell ⟨b, 2, none⟩ x2) (some b) :=
  World.grownBy.trans (World.grownBy.trans (grown_setCell _ ⟨b, 0, none⟩ _) (grown_setCell _ ⟨b, 1, none⟩ _)) (grown_setCell _ ⟨b, 2, none⟩ _)
theorem set3_blk {w : World} {b : Nat} {t : TypeId} {a0 a1 a2 : Value} (h : Blk w b t #[a0, a1, a2]) (x0 x1 x2 : Value) : Blk (((w.setCell ⟨b, 0, none⟩ x0).setCell ⟨b, 1, none⟩ x1).setCell ⟨b, 2, none⟩ x2) b t #[x0, x1, x2] := ((h.set 0 x0).set 1 x1).set 2 x2

set_option maxRecDepth 20000 in
set_option maxHeartbeats 8000000 in
theorem rclosed_any {N : Nat} (hT : RT N) (w : World) (s : ByteArray) (i fr d wh F : Nat) (e : UInt8) (hi : i ≤ s.size) (hfr : fr ≤ s.size) (hs : s.size ≤ 100000) (hN : s.size ≤ i + N) (hwh : wh ≤ 4) (hd : d ≤ 40) (hF : 3 * (s.size - i) + 5 ≤ F) (iv fv wv dv ev : Int) (hiv : iv = (i : Int)) (hfv : fv = (fr : Int)) (hwv : wv = (wh : Int)) (hdv : dv = (d : Int)) (hev : ev = (e.toNat : Int)) :
    Calls Tryd.prog 36 #[.string s, .int .i64 iv, .int .i64 fv, .int .u8 ev, .int .i64 wv, .int .i64 dv] w fun en w' => en = .returned (AtV s (cls F (s.data.toList.drop i) (s.data.toList.drop fr) e wh d)) ∧ Below w.heap.size w w' := by
  subst hiv hfv hwv hdv
  obtain ⟨F, rfl⟩ : ∃ G, F = G + 1 := ⟨F - 1, by omega⟩
  rw [cls_succ]
  have HPL := hide (place_of (s := s) (p := fr) hfr)
  obtain ⟨frl, hfrl⟩ : ∃ x, x = s.data.toList.drop fr := ⟨_, rfl⟩
  rw [← hfrl] at HPL ⊢
  have HEV := hide hev
  clear hfrl hev
  by_cases h40 : 40 ≤ d
  · rw [if_pos h40]
    have h40' : (40 : Int) ≤ (d : Int) := by omega
    clear h40
    go_enter Tryd.func36, Tryd.ntmps36
    go_wp2
    first
      | refine bodyPost_ret (results_at rfl _ _ w.heap.size _ _ _ rfl (Blk.new w _ _)) rfl ?_
      | refine bodyPost_ret (results_at rfl _ _ w.heap.size _ _ _ rfl (set3_blk (Blk.new w _ _) _ _ _)) rfl ?_
    rw [AtV_err, unhide HPL]
    first
      | exact ⟨rfl, (Below.refl _ w).alloc (Nat.le_refl _) _⟩
      | exact ⟨rfl, ((Below.refl _ w).alloc (Nat.le_refl _) _).trans (below_some (set3_grown _ w.heap.size _ _ _) (by simp))⟩
  · rw [if_neg h40]
    have h40' : ¬ (40 : Int) ≤ (d : Int) := by omega
    obtain ⟨d1, hd1⟩ : ∃ x, x = d + 1 := ⟨_, rfl⟩
    rw [← hd1]
    have hwd : IntKind.i64.wrap ((d : Int) + 1) = (d1 : Int) := by rw [IntKind.wrap_i64]; omega
    have hd1l : d1 ≤ 40 := by omega
    have HI : Hid (CloI w s frl e wh d1 (lop F (s.data.toList.drop i) frl e wh d1) i (w.alloc (.cells #[.int .i64 0, .int .i64 0, .int .i64 0] 48))) := hide ⟨Blk.new w _ _, (Below.refl _ w).alloc (Nat.le_refl _) _, F, by omega, rfl⟩
    obtain ⟨T, hT0⟩ : ∃ x, x = lop F (s.data.toList.drop i) frl e wh d1 := ⟨_, rfl⟩
    rw [← hT0] at HI ⊢
    have HMT := hide hT
    clear hT0 hT hd1 h40 hF
    go_enter Tryd.func36, Tryd.ntmps36
    go_wp2_with fail
    go_loopw [1] (fun x wr => ∃ q : Nat, x = .int .i64 (q : Int) ∧ i ≤ q ∧ q ≤ s.size ∧ Hid (CloI w s frl e wh d1 T q wr)) (fun x _ => s.size - (intOf x).toNat)
    case atStart => exact ⟨i, rfl, Nat.le_refl _, hi, HI⟩
    case round =>
      clear HI
      obtain ⟨q, rfl, hiq, hqs, HI⟩ := hrel
      obtain ⟨hB, hW, F1, hF1, hT1⟩ := unhide HI
      clear HI
      have z0 := hB.frozen 0
      have z1 := hB.frozen 1
      have z2 := hB.frozen 2
      have y0 := hB.cell 0 (v := .int .i64 0) rfl
      have y1 := hB.cell 1 (v := .int .i64 0) rfl
      have y2 := hB.cell 2 (v := .int .i64 0) rfl
      have HB := hide hB
      have HW := hide hW
      obtain ⟨F1, rfl⟩ : ∃ G, F1 = G + 1 := ⟨F1 - 1, by omega⟩
      by_cases hq : q < s.size
      · have hq' : (q : Int) < (s.size : Int) := by omega
        rw [drop_at hq, lop_succ] at hT1
        by_cases hbe : s[q] = e
        · rw [if_pos hbe] at hT1
          have hbv : (s[q].toNat : Int) = ev := by rw [hbe, unhide HEV]
          obtain ⟨q1, hq1⟩ : ∃ x, x = q + 1 := ⟨_, rfl⟩
          have hw1 : IntKind.i64.wrap ((q : Int) + 1) = (q1 : Int) := by rw [IntKind.wrap_i64]; omega
          have HT1 : Hid (AtV s T = .agg #[.int .i64 (q1 : Int), .int .i64 0, .int .i64 0]) := hide (by rw [hT1, AtV_ok, ← hq1, place_of (by omega)])
          clear hT1 hbe hq1 hB hW
          go_wp2
          refine bodyPost_ret (results_at rfl _ _ w.heap.size _ _ _ rfl (set3_blk (unhide HB) _ _ _)) rfl ?_
          rw [unhide HT1]
          exact ⟨rfl, (unhide HW).trans (below_some (set3_grown wr w.heap.size _ _ _) (unhide HW).size)⟩
        · rw [if_neg hbe, ← drop_at hq] at hT1
          have hbv : ¬ (s[q].toNat : Int) = ev := by
            rw [unhide HEV]
            intro e'
            exact hbe (UInt8.toNat_inj.1 (by omega))
          have HTH := hide (unhide HMT wr s q d1 wh F1 hq hs (by omega) hwh hd1l (by omega) _ _ rfl rfl)
          have hlen1 := thg_len (F1 - 1) s[q] (s.data.toList.drop (q + 1)) wh d1
          rw [← drop_at hq, show F1 - 1 + 1 = F1 by omega] at hlen1
          have hnz := (c_nz F1).2.2 (s.data.toList.drop q) wh d1
          have hdl : (s.data.toList.drop (q + 1)).length = s.size - (q + 1) := by rw [List.length_drop, data_len]
          rcases hth : thg F1 (s.data.toList.drop q) wh d1 with r' | ⟨x, m⟩
          · rw [hth] at HTH hT1 hlen1
            have hl2 : r'.length ≤ (s.data.toList.drop (q + 1)).length := hlen1
            rw [AtV_ok] at HTH
            obtain ⟨q2, hq2⟩ : ∃ x, x = s.size - r'.length := ⟨_, rfl⟩
            rw [← hq2] at HTH
            have hdr2 : s.data.toList.drop q2 = r' := by
              obtain ⟨q3, hq3, hq3l⟩ := thg_tail hth
              rw [← hq3] at hq2 ⊢
              rw [place_of hq3l] at hq2
              rw [hq2]
            have HN : Hid (∀ W, Below wr.heap.size wr W → CloI w s frl e wh d1 T q2 W) := hide (fun W hbW => ⟨(unhide HB).below hbW (unhide HB).lt, (unhide HW).trans (hbW.mono (unhide HW).size), F1, by omega, by rw [hT1, hdr2]⟩)
            have hmm : q < q2 ∧ q2 ≤ s.size := by omega
            clear hT1 hbe hB hW hlen1 hnz hdl hth hl2 hq2 hdr2 z0 z1 z2 y0 y1 y2
            go_wp2_with fail
            refine (unhide HTH).mono ?_
            rintro en w5 ⟨rfl, b5⟩
            have B5 := hide b5
            clear b5
            go_wp2
            go_roundw
            case rel => exact ⟨q2, rfl, by omega, hmm.2, hide (unhide HN _ ((unhide B5).trans (((Below.refl _ w5).alloc (Nat.le_refl _) _).mono (unhide B5).size)))⟩
            case measure => simp [intOf]; omega
          · rw [hth] at HTH hT1 hnz
            rw [AtV_err] at HTH
            have hx : ¬ x = 0 := hnz
            have HT1 : Hid (AtV s T = .agg #[.int .i64 0, .int .i64 ((s.size - m.length : Nat) : Int), .int .i64 x]) := hide (by rw [hT1, AtV_err])
            obtain ⟨bb, hbb⟩ : ∃ y : Int, y = ((s.size - m.length : Nat) : Int) := ⟨_, rfl⟩
            rw [← hbb] at HTH HT1
            clear hT1 hbe hB hW hlen1 hnz hdl hth hbb z0 z1 z2 y0 y1 y2
            go_wp2_with fail
            refine (unhide HTH).mono ?_
            rintro en w5 ⟨rfl, b5⟩
            have B5 := hide b5
            have h5 := (unhide HB).below b5 (unhide HB).lt
            have hne : w.heap.size ≠ w5.heap.size := by have := h5.lt; omega
            have h6 := h5.alloc (.cells #[.int .i64 0, .int .i64 bb, .int .i64 x] 48)
            have z0 := h6.frozen 0
            have z1 := h6.frozen 1
            have z2 := h6.frozen 2
            have y0 := h6.cell 0 (v := .int .i64 0) rfl
            have y1 := h6.cell 1 (v := .int .i64 0) rfl
            have y2 := h6.cell 2 (v := .int .i64 0) rfl
            have H6 := hide h6
            clear b5 h5 h6
            go_wp2
            refine bodyPost_ret (results_at rfl _ _ w.heap.size _ _ _ rfl (set3_blk (unhide H6) _ _ _)) rfl ?_
            rw [unhide HT1]
            exact ⟨rfl, ((unhide HW).trans ((unhide B5).mono (unhide HW).size)).trans ((((Below.refl _ w5).alloc (Nat.le_refl _) _).mono (by have := (unhide HW).size; have := (unhide B5).size; omega)).trans (below_some (set3_grown _ w.heap.size _ _ _) (Nat.le_of_lt (unhide H6).lt)))⟩
      · have hq' : ¬ (q : Int) < (s.size : Int) := by omega
        rw [drop_nil (by omega), lop_nil] at hT1
        have HT1 : Hid (AtV s T = .agg #[.int .i64 0, .int .i64 (fr : Int), .int .i64 11]) := hide (by rw [hT1, AtV_err, unhide HPL])
        clear hT1 hB hW
        go_wp2
        refine bodyPost_ret (results_at rfl _ _ w.heap.size _ _ _ rfl (set3_blk (unhide HB) _ _ _)) rfl ?_
        rw [unhide HT1]
        exact ⟨rfl, (unhide HW).trans (below_some (set3_grown wr w.heap.size _ _ _) (unhide HW).size)⟩

end Go.Proofs.YtlmpdfeidjnmnaaDoor
