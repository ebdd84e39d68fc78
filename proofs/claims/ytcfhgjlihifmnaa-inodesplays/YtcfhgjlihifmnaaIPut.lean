/-
  put; Write.
-/
import Derived.Test.YtcfhgjlihifmnaaIWrite
namespace Go.Proofs.Ytcfhgjlihifmnaa
open Go.RowKit Go.Maps

/-- A node of which so many bytes are written; its size is not turned yet. -/
def putB (x : Nd) (a : Nat) (d : List UInt8) (done : Nat) : Nd := { x with byt := fun j => if a ≤ j ∧ j < a + done then d.getD (j - a) 0 else x.byt j, has := hasP x.has a done }
theorem putB_zero (x : Nd) (a : Nat) (d : List UInt8) : putB x a d 0 = x := by
  unfold putB
  cases x with
  | mk kind names users size byt has =>
    congr 1
    · funext j
      dsimp only
      rw [if_neg (by omega)]
    · exact hasP_zero _ _
theorem putB_next {x : Nd} {a done k : Nat} {d : List UInt8} (hk : 0 < k) (hd : done + k ≤ d.length) (hf : (a + done) % 64 + k ≤ 64) :
    xwr (xput (putB x a d done) ((a + done) / 64)) (64 * ((a + done) / 64) + (a + done) % 64) ((d.drop done).take k) = putB x a d (done + k) := by
  unfold xwr xput putB
  dsimp only
  have hl : ((d.drop done).take k).length = k := by simp; omega
  congr 1
  · funext j
    rw [hl, show 64 * ((a + done) / 64) + (a + done) % 64 = a + done by omega]
    by_cases h1 : a + done ≤ j ∧ j < a + done + k
    · rw [if_pos h1, if_pos (by omega), List.getD_eq_getElem?_getD, List.getElem?_take, if_pos (by omega), List.getElem?_drop, List.getD_eq_getElem?_getD, show done + (j - (a + done)) = j - a by omega]
    · rw [if_neg h1]
      by_cases h2 : a ≤ j ∧ j < a + done
      · rw [if_pos h2, if_pos (by omega)]
      · rw [if_neg h2, if_neg (by omega)]
  · funext j
    unfold hasP
    by_cases e : j = (a + done) / 64
    · rw [if_pos e, show (decide (0 < done + k) && decide (a / 64 ≤ j) && decide (64 * j < a + (done + k))) = true by simp; omega]
      simp
    · rw [if_neg e]
      congr 1
      by_cases h1 : a / 64 ≤ j
      · by_cases h2 : 64 * j < a + done
        · by_cases h3 : 0 < done
          · rw [show decide (0 < done) = true by simpa using h3, show decide (64 * j < a + done) = true by simpa using h2, show decide (0 < done + k) = true by simp; omega, show decide (64 * j < a + (done + k)) = true by simp; omega]
          · rw [show decide (0 < done) = false by simpa using h3, show decide (64 * j < a + (done + k)) = false by simp; omega]
            simp
        · rw [show decide (64 * j < a + done) = false by simpa using h2, show decide (64 * j < a + (done + k)) = false by simp; omega]
          simp
      · rw [show decide (a / 64 ≤ j) = false by simpa using h1]
        simp
structure PT (w wr : World) (p : Nat) (L : Lay) (T : TB) (i : Nat) (x : Nd) (a : Nat) (d : List UInt8) (done : Nat) (pf : PF) (l : BL) : Prop where
  tl : TL wr p { L with pf := updF L.pf i pf, l := l } (T.set i (some (putB x a d done)))
  len : l.length = L.l.length
  gr : GrownS w wr (fun k => k = L.m i ∨ k = L.gs ∨ k = L.hs)
  brk : done = 0 ∨ done = d.length ∨ (a + done) % 64 = 0
theorem PT.count {w wr : World} {p : Nat} {L : Lay} {T : TB} {i : Nat} {x : Nd} {a : Nat} {d : List UInt8} {done : Nat} {pf : PF} {l : BL} (G : PT w wr p L T i x a d done pf l) (H : TL w p L T) (hi : T[i]? = some (some x)) : freeN l + cnt (hasP x.has a done) = freeN L.l + cnt x.has := by
  have h1 := H.count
  have h2 := G.tl.count
  have h3 := usedT_set T i (some x) (some (putB x a d done)) hi
  have h4 := G.len
  simp only [usd] at h3
  have h5 : freeN l + usedT (T.set i (some (putB x a d done))) = l.length := h2
  have h6 : cnt (putB x a d done).has = cnt (hasP x.has a done) := rfl
  omega
/-- What put leaves. -/
def PutL (w w' : World) (p : Nat) (L : Lay) (T : TB) (i : Nat) (x : Nd) (a : Nat) (d : List UInt8) (done : Nat) : Prop :=
  ∃ pf l, PutSp x.has (freeN L.l) a d.length done ∧ TL w' p { L with pf := updF L.pf i pf, l := l } (T.set i (some (putB x a d done))) ∧ l.length = L.l.length ∧ GrownS w w' (fun k => k = L.m i ∨ k = L.gs ∨ k = L.hs)
/-- A round of put that writes. -/
theorem PT.next {w wr w1 : World} {p : Nat} {L : Lay} {T : TB} {i : Nat} {x : Nd} {a : Nat} {d : List UInt8} {done k : Nat} {pf : PF} {l : BL} (G : PT w wr p L T i x a d done pf l) (hi : T[i]? = some (some x)) (hlt : done < d.length) (hk : 0 < k) (hd : done + k ≤ d.length) (hf : (a + done) % 64 + k ≤ 64) (hend : done + k = d.length ∨ (a + done) % 64 + k = 64)
    {B : Int} (hB : Blkd wr w1 p { L with pf := updF L.pf i pf, l := l } (T.set i (some (putB x a d done))) i (putB x a d done) ((a + done) / 64) B 0) :
    w1.cell? ⟨p, 1, none⟩ = some (.pointer (some ⟨L.s, 0, none⟩)) ∧ Calls Try.prog 59 #[.pointer (some ⟨L.s, 0, none⟩), .int .i64 B, .int .i64 (((a + done) % 64 : Nat) : Int), .string (BA ((d.drop done).take k))] w1 fun e w2 => ∃ E : Int, e = .returned (.int .i64 E) ∧ ∃ pf' l', PT w w2 p L T i x a d (done + k) pf' l' := by
  rcases hB with ⟨_, b, pf1, l1, rfl, hb, t1, hl1, g1⟩ | ⟨h, _⟩
  · have hl1 : l1.length = l.length := hl1
    have g1 : GrownS wr w1 (fun k => k = L.m i ∨ k = L.hs) := g1
    rw [List.set_set] at t1
    have t1 : TL w1 p { L with pf := updF (updF L.pf i pf) i pf1, l := l1 } (T.set i (some (xput (putB x a d done) ((a + done) / 64)))) := t1
    rw [updF_twice] at t1
    have hpi : updF L.pf i pf1 i = pf1 := if_pos rfl
    obtain ⟨y, hy, hyn⟩ := t1.part i _ (set_same hi) _ b (by show updF L.pf i pf1 i _ = _; rw [hpi]; exact hb)
    have hy : l1[b]? = some y := hy
    have hbl := (List.getElem?_eq_some_iff.1 hy).1
    have hmx : l1.length ≤ 4096 := t1.store.wf.max
    have hl : ((d.drop done).take k).length = k := by simp; omega
    refine ⟨t1.tab.cell 1 rfl, (write_any w1 L.s L.gs L.hs l1 ((b : Int) + 1) (((a + done) % 64 : Nat) : Int) ((d.drop done).take k) t1.store (by omega) (by omega)).mono ?_⟩
    rintro e w2 ⟨h1, h2, h3⟩
    have hw : writeL l1 ((b : Int) + 1) (((a + done) % 64 : Nat) : Int) ((d.drop done).take k) = l1.set b (putAt y ((a + done) % 64) ((d.drop done).take k)) := by
      unfold writeL
      rw [tkn_of hy, show (!y.isEmpty) = true by cases y with | nil => exact absurd rfl hyn | cons _ _ => rfl, show inB (((a + done) % 64 : Nat) : Int) ((((d.drop done).take k).length : Nat) : Int) = true by rw [hl]; simp [inB]; omega, show ((b : Int) + 1 - 1).toNat = b by omega]
      simp only [Bool.and_self, if_true]
      rw [List.getD_eq_getElem?_getD, hy]
      rfl
    rw [hw] at h2
    have h3 : GrownS w1 w2 (fun k => k = L.gs) := h3
    have t2 := t1.wrote (set_same hi) (kk := (a + done) / 64) (b := b) (fr := (a + done) % 64) (by show updF L.pf i pf1 i _ = _; rw [hpi]; exact hb) hy (by rw [hl]; omega) h3 h2
    rw [List.set_set, putB_next hk hd hf] at t2
    have t2 : TL w2 p { L with pf := updF (updF L.pf i pf1) i (updF L.pf i pf1 i), l := l1.set b (putAt y ((a + done) % 64) ((d.drop done).take k)) } (T.set i (some (putB x a d (done + k)))) := t2
    rw [updF_twice] at t2
    refine ⟨_, h1, _, _, t2, by rw [List.length_set, hl1]; exact G.len, (G.gr.trans (g1.mono (fun k _ e => by rcases e with e | e; exact .inl e; exact .inr (.inr e)))).trans (h3.mono (fun k _ e => .inr (.inl e))), by omega⟩
  · cases h
theorem PT.stop {w wr w1 : World} {p : Nat} {L : Lay} {T : TB} {i : Nat} {x : Nd} {a : Nat} {d : List UInt8} {done : Nat} {pf : PF} {l : BL} (G : PT w wr p L T i x a d done pf l) (H : TL w p L T) (hi : T[i]? = some (some x)) (hlt : done < d.length) (hmx : a + d.length ≤ 4096)
    {B : Int} (hB : Blkd wr w1 p { L with pf := updF L.pf i pf, l := l } (T.set i (some (putB x a d done))) i (putB x a d done) ((a + done) / 64) B 20) : PutL w w1 p L T i x a d done := by
  rcases hB with ⟨h, _⟩ | ⟨_, _, h1, h2, h3, h4⟩
  · cases h
  · have hc := G.count H hi
    have h2 : freeN l = 0 := h2
    have h1 : hasP x.has a done ((a + done) / 64) = false := h1
    refine ⟨pf, l, ⟨by omega, by omega, by omega, .inr ⟨by omega, ?_, ?_⟩⟩, h3, G.len, G.gr.trans (h4.mono (fun k _ e => by rcases e with e | e; exact .inl e; exact .inr (.inr e)))⟩
    · unfold hasP at h1
      simp only [Bool.or_eq_false_iff] at h1
      exact h1.1
    · rcases G.brk with e | e | e
      · exact .inl e
      · omega
      · exact .inr e
set_option maxRecDepth 20000 in
set_option maxHeartbeats 1000000 in
theorem put_any {w : World} {p : Nat} {L : Lay} {T : TB} (H : TL w p L T) {i : Nat} {x : Nd} (hi : T[i]? = some (some x)) (a : Nat) (d : List UInt8) (hmx : a + d.length ≤ 4096) :
    Calls Try.prog 34 #[.pointer (some ⟨p, 0, none⟩), .pointer (some ⟨L.q i, 0, none⟩), .int .i64 (a : Int), .string (BA d)] w fun e w' => ∃ done : Nat, e = .returned (.int .i64 (done : Int)) ∧ done ≤ d.length ∧ Hid (PutL w w' p L T i x a d done) := by
  have HBL : Hid (∀ wr done pf l, PT w wr p L T i x a d done pf l → done < d.length → Calls Try.prog 58 #[.pointer (some ⟨p, 0, none⟩), .pointer (some ⟨L.q i, 0, none⟩), .int .i64 (((a + done) / 64 : Nat) : Int)] wr fun e w' => ∃ B E : Int, e = .returned (.tuple #[.int .i64 B, .int .i64 E]) ∧ Hid (Blkd wr w' p { L with pf := updF L.pf i pf, l := l } (T.set i (some (putB x a d done))) i (putB x a d done) ((a + done) / 64) B E)) := hide (fun wr done pf l G hlt => block_any G.tl (set_same hi) ((a + done) / 64) (by omega))
  have HNX : Hid (∀ wr w1 done k pf l B, PT w wr p L T i x a d done pf l → done < d.length → 0 < k → done + k ≤ d.length → (a + done) % 64 + k ≤ 64 → (done + k = d.length ∨ (a + done) % 64 + k = 64) → Blkd wr w1 p { L with pf := updF L.pf i pf, l := l } (T.set i (some (putB x a d done))) i (putB x a d done) ((a + done) / 64) B 0 →
      w1.cell? ⟨p, 1, none⟩ = some (.pointer (some ⟨L.s, 0, none⟩)) ∧ Calls Try.prog 59 #[.pointer (some ⟨L.s, 0, none⟩), .int .i64 B, .int .i64 (((a + done) % 64 : Nat) : Int), .string (BA ((d.drop done).take k))] w1 fun e w2 => ∃ E : Int, e = .returned (.int .i64 E) ∧ ∃ pf' l', PT w w2 p L T i x a d (done + k) pf' l') := hide (fun wr w1 done k pf l B G h1 h2 h3 h4 h5 h6 => G.next hi h1 h2 h3 h4 h5 h6)
  have HST : Hid (∀ wr w1 done pf l B, PT w wr p L T i x a d done pf l → done < d.length → Blkd wr w1 p { L with pf := updF L.pf i pf, l := l } (T.set i (some (putB x a d done))) i (putB x a d done) ((a + done) / 64) B 20 → PutL w w1 p L T i x a d done) := hide (fun wr w1 done pf l B G h1 h2 => G.stop H hi h1 hmx h2)
  have HEN : Hid (∀ wr pf l, PT w wr p L T i x a d d.length pf l → PutL w wr p L T i x a d d.length) := hide (fun wr pf l G => by
    have hc := G.count H hi
    exact ⟨pf, l, ⟨Nat.le_refl _, hmx, by omega, .inl rfl⟩, G.tl, G.len, G.gr⟩)
  have HS0 : Hid (PT w w p L T i x a d 0 (L.pf i) L.l) := hide ⟨by rw [putB_zero, set_self hi, updF_self]; exact H, rfl, grownS_of_below (Below.refl _ _), .inl rfl⟩
  obtain ⟨PX, hPX⟩ : ∃ P : World → Nat → PF → BL → Prop, P = fun wr done pf l => PT w wr p L T i x a d done pf l := ⟨_, rfl⟩
  obtain ⟨BX, hBX⟩ : ∃ P : World → World → Nat → PF → BL → Int → Int → Prop, P = fun wr w1 done pf l B E => Blkd wr w1 p { L with pf := updF L.pf i pf, l := l } (T.set i (some (putB x a d done))) i (putB x a d done) ((a + done) / 64) B E := ⟨_, rfl⟩
  obtain ⟨QX, hQX⟩ : ∃ P : World → Nat → Prop, P = fun w1 done => PutL w w1 p L T i x a d done := ⟨_, rfl⟩
  have HBE : Hid (∀ wr w1 done pf l B E, BX wr w1 done pf l B E → E = 0 ∨ E = 20) := hide (by rw [hBX]; intro wr w1 done pf l B E h; rcases h with h | h; exact .inl h.1; exact .inr h.1)
  replace HBL : Hid (∀ wr done pf l, PX wr done pf l → done < d.length → Calls Try.prog 58 #[.pointer (some ⟨p, 0, none⟩), .pointer (some ⟨L.q i, 0, none⟩), .int .i64 (((a + done) / 64 : Nat) : Int)] wr fun e w' => ∃ B E : Int, e = .returned (.tuple #[.int .i64 B, .int .i64 E]) ∧ Hid (BX wr w' done pf l B E)) := hide (by rw [hPX, hBX]; exact unhide HBL)
  replace HNX : Hid (∀ wr w1 done k pf l B, PX wr done pf l → done < d.length → 0 < k → done + k ≤ d.length → (a + done) % 64 + k ≤ 64 → (done + k = d.length ∨ (a + done) % 64 + k = 64) → BX wr w1 done pf l B 0 →
      w1.cell? ⟨p, 1, none⟩ = some (.pointer (some ⟨L.s, 0, none⟩)) ∧ Calls Try.prog 59 #[.pointer (some ⟨L.s, 0, none⟩), .int .i64 B, .int .i64 (((a + done) % 64 : Nat) : Int), .string (BA ((d.drop done).take k))] w1 fun e w2 => ∃ E : Int, e = .returned (.int .i64 E) ∧ ∃ pf' l', PX w2 (done + k) pf' l') := hide (by rw [hPX, hBX]; exact unhide HNX)
  replace HST : Hid (∀ wr w1 done pf l B, PX wr done pf l → done < d.length → BX wr w1 done pf l B 20 → QX w1 done) := hide (by rw [hPX, hBX, hQX]; exact unhide HST)
  replace HEN : Hid (∀ wr pf l, PX wr d.length pf l → QX wr d.length) := hide (by rw [hPX, hQX]; exact unhide HEN)
  replace HS0 : Hid (PX w 0 (L.pf i) L.l) := hide (by rw [hPX]; exact unhide HS0)
  suffices hsuf : Calls Try.prog 34 #[.pointer (some ⟨p, 0, none⟩), .pointer (some ⟨L.q i, 0, none⟩), .int .i64 (a : Int), .string (BA d)] w fun e w' => ∃ done : Nat, e = .returned (.int .i64 (done : Int)) ∧ done ≤ d.length ∧ Hid (QX w' done) by
    rw [hQX] at hsuf
    exact hsuf
  clear hPX hBX hQX H hi
  obtain ⟨q, hq⟩ : ∃ q, q = L.q i := ⟨_, rfl⟩
  obtain ⟨s, hs⟩ : ∃ s, s = L.s := ⟨_, rfl⟩
  rw [← hq] at HBL ⊢
  rw [← hs] at HNX
  clear hq hs
  obtain ⟨n, hn⟩ : ∃ n, n = d.length := ⟨_, rfl⟩
  rw [← hn] at HBL HNX HST HEN hmx ⊢
  have HN := hide hn
  obtain ⟨S, hS⟩ : ∃ S, S = BA d := ⟨_, rfl⟩
  rw [← hS]
  have hSn : S.size = n := by rw [hS, hn]; rfl
  have HEX : Hid (∀ done k, S.extract done (done + k) = BA ((d.drop done).take k)) := hide (fun done k => by rw [hS]; exact extract_take (BA d) done k)
  clear hn hS
  go_enter Try.func34, Try.ntmps34
  go_wp2_with fail
  go_loopw [9] (fun v wr => ∃ (done : Nat) (pf : PF) (l : BL), v = .int .i64 (done : Int) ∧ done ≤ n ∧ Hid (PX wr done pf l)) (fun v _ => n - (intOf v).toNat)
  case atStart => exact ⟨0, _, _, rfl, Nat.zero_le _, HS0⟩
  case round =>
    clear HS0
    obtain ⟨done, pf, l, rfl, hdn, HP⟩ := hrel
    by_cases hlt : done < n
    · have hlt1 : (done : Int) < (n : Int) := by omega
      have HPL := hide (place_any (a + done) wr (by omega))
      have HB := hide (unhide HBL wr done pf l (unhide HP) hlt)
      obtain ⟨k, hk⟩ : ∃ k, k = min (n - done) (64 - (a + done) % 64) := ⟨_, rfl⟩
      have HN2 := hide (fun w1 B (h : BX wr w1 done pf l B 0) => unhide HNX wr w1 done k pf l B (unhide HP) hlt (by omega) (by omega) (by omega) (by omega) h)
      have HS2 := hide (fun w1 B (h : BX wr w1 done pf l B 20) => unhide HST wr w1 done pf l B (unhide HP) hlt h)
      obtain ⟨pt, hpt⟩ : ∃ pt, pt = (a + done) / 64 := ⟨_, rfl⟩
      obtain ⟨fr, hfr⟩ : ∃ fr, fr = (a + done) % 64 := ⟨_, rfl⟩
      rw [← hpt, ← hfr] at HPL
      rw [← hpt] at HB
      rw [← hfr] at HN2 hk
      have hfr64 : fr < 64 := by omega
      obtain ⟨hi2, hhi⟩ : ∃ hi2, hi2 = done + k := ⟨_, rfl⟩
      have hmin : min (n : Int) ((done : Int) + 64 - (fr : Int)) = (hi2 : Int) := by omega
      have hle : done ≤ hi2 := by omega
      have hhn : hi2 ≤ n := by omega
      have hklen : ((d.drop done).take k).length = k := by have := unhide HN; simp; omega
      obtain ⟨pc, hpc⟩ : ∃ pc, pc = BA ((d.drop done).take k) := ⟨_, rfl⟩
      have hex : S.extract done hi2 = pc := by rw [hpc, hhi]; exact unhide HEX done k
      have hpcs : pc.size = k := by rw [hpc]; exact hklen
      rw [← hpc] at HN2
      have HHI := hide hhi
      have hk0 : 0 < k := by omega
      have hk64 : k ≤ 64 := by omega
      clear HNX HST HBL hpt hfr HEX hk hhi hklen hpc
      go_wp2_with fail
      refine (unhide HPL).mono ?_
      rintro e w1 ⟨rfl, hw1⟩
      rw [show w1 = wr from hw1]
      clear hw1
      go_wp2_with fail
      refine (unhide HB).mono ?_
      rintro e w1 ⟨B, E, rfl, H1⟩
      rcases unhide HBE _ _ _ _ _ _ _ (unhide H1) with hE | hE
      · subst hE
        obtain ⟨c1, b1⟩ := unhide HN2 w1 B (unhide H1)
        have HB1 := hide b1
        clear b1 HN2 HS2 HBE
        go_wp2_with fail
        refine (unhide HB1).mono ?_
        rintro e w2 ⟨E2, rfl, pf', l', h2⟩
        have H2 := hide h2
        clear h2
        go_wp2
        go_roundw
        case rel => exact ⟨done + k, pf', l', by go_num, by have := unhide HHI; omega, H2⟩
        case measure => have := unhide HHI; simp [intOf]; omega
      · subst hE
        have HQ := hide (unhide HS2 w1 B (unhide H1))
        clear HN2 HS2 HBE
        go_wp2
        go_ret
        exact ⟨done, rfl, hdn, HQ⟩
    · have hlt1 : ¬ (done : Int) < (n : Int) := by omega
      have HQ : Hid (QX wr done) := hide (by
        obtain rfl : done = n := by omega
        exact unhide HEN wr pf l (unhide HP))
      clear HNX HST HBL HEX HEN
      go_wp2
      go_ret
      exact ⟨done, rfl, hdn, HQ⟩

end Go.Proofs.Ytcfhgjlihifmnaa
