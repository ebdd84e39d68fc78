/-
  clear; Cut.
-/
import Derived.Test.YtcfhgjlihifmnaaIWrite
import Derived.Deep.RegionHeld3
namespace Go.Proofs.Ytcfhgjlihifmnaa
open Go.RowKit Go.Maps

/-- What clear leaves. -/
def ClrL (w w' : World) (p : Nat) (L : Lay) (T : TB) (i : Nat) (x : Nd) (o n : Nat) : Prop :=
  ∃ l x', TL w' p { L with pf := updF L.pf i (L.pf i), l := l } (T.set i (some x')) ∧ l.length = L.l.length ∧ GrownS w w' (fun k => k = L.gs) ∧ x' = xwr x o (zerosL n)
theorem zerosL_get (n j : Nat) : (zerosL n).getD j 0 = 0 := by
  unfold zerosL
  rw [List.getD_eq_getElem?_getD, List.getElem?_replicate]
  split <;> rfl
set_option maxRecDepth 20000 in
set_option maxHeartbeats 1000000 in
theorem clear_any {w : World} {p : Nat} {L : Lay} {T : TB} (H : TL w p L T) {i : Nat} {x : Nd} (hi : T[i]? = some (some x)) (part fr : Nat) (hp : part ≤ 1000) (hf : fr < 64) :
    Calls Try.prog 53 #[.pointer (some ⟨p, 0, none⟩), .pointer (some ⟨L.q i, 0, none⟩), .int .i64 (part : Int), .int .i64 (fr : Int)] w fun e w' => e = .returned (.tuple #[]) ∧ Hid (ClrL w w' p L T i x (64 * part + fr) (64 - fr)) := by
  obtain ⟨D, hD, hR⟩ := (H.node i x hi).own
  have cm : w.cell? ⟨L.q i, 4, none⟩ = some (.map (some (L.m i))) := (H.node i x hi).blk.cell 4 rfl
  have cs : w.cell? ⟨p, 1, none⟩ = some (.pointer (some ⟨L.s, 0, none⟩)) := H.tab.cell 1 rfl
  have hbyt := H.byte i x hi
  have hkey := keyI (a := (part : Int)) (by simp [Lit.wf, IntKind.min, IntKind.max, IntKind.signed, IntKind.bits]; omega)
  have hh := hR.has (part : Int)
  rw [show ((part : Int)).toNat = part by omega] at hh
  have hzl : (zerosL (64 - fr)).length = 64 - fr := by simp [zerosL]
  cases hc : L.pf i part with
  | none =>
    have hh2 : Maps.has D (.int .i64 (part : Int)) = false := by rw [hh]; unfold isS; rw [hc]; simp
    have HE : Hid (ClrL w w p L T i x (64 * part + fr) (64 - fr)) := hide (by
      refine ⟨L.l, x, by rw [set_self hi, updF_self]; exact H, rfl, grownS_of_below (Below.refl _ _), ?_⟩
      unfold xwr
      cases x with
      | mk kind names users size byt has =>
        congr 1
        funext j
        dsimp only
        split
        · rename_i hj
          rw [zerosL_get]
          have h2 := hbyt j
          dsimp only at h2
          rw [h2]
          unfold byteOf
          rw [show j / 64 = part by omega, hc]
        · rfl)
    obtain ⟨m, hm⟩ : ∃ m, m = L.m i := ⟨_, rfl⟩
    obtain ⟨q, hq⟩ : ∃ q, q = L.q i := ⟨_, rfl⟩
    rw [← hm] at hD cm
    rw [← hq] at cm ⊢
    have HD := hide hD
    have HK := hide hkey
    have HH := hide hh2
    clear hbyt H hi hR hh hm hq hc hD hkey hh2 hzl
    go_enter Try.func53, Try.ntmps53
    go_wp2_with (first
      | (at_lookup; refine wpList_lookup_own_ok_int _ rfl _ _ 78 rfl 3 3 .i64 lawI Try.underlying78 Try.underlying3 (zeroI _) m _ _ rfl (unhide HD) _ _ rfl (unhide HK) ?_; intro c hat hwc; rw [unhide HH]; have HC := hide hat; clear hat)
      | go_in)
    refine bodyPost_end (res0 rfl _ _) rfl ?_
    exact ⟨rfl, HE⟩
  | some b =>
    have hh2 : Maps.has D (.int .i64 (part : Int)) = true := by rw [hh]; unfold isS; rw [hc]; simp
    have hat0 := hR.at' part b hc (.lit (.int .i64 0))
    obtain ⟨y, hy, hyn⟩ := H.part i x hi part b hc
    have hbl := (List.getElem?_eq_some_iff.1 hy).1
    have hmx := H.store.wf.max
    have HZ : Hid (∀ W, Below w.heap.size w W → Calls Try.prog 66 #[.int .i64 (IntKind.i64.wrap (64 - (fr : Int)))] W fun e w' => e = .returned (.string (BA (zerosL (64 - fr)))) ∧ w'.cell? ⟨p, 1, none⟩ = some (.pointer (some ⟨L.s, 0, none⟩)) ∧ Hid (Below w.heap.size w w')) := hide (fun W hb => by
      have := zeros_any (64 - fr) W (by omega)
      rw [show (((64 - fr : Nat)) : Int) = IntKind.i64.wrap (64 - (fr : Int)) by rw [IntKind.wrap_i64]; omega] at this
      refine this.mono ?_
      rintro e w' ⟨h1, h2⟩
      have h3 := hb.trans (h2.mono hb.size)
      exact ⟨h1, (h3.cell (p := ⟨p, 1, none⟩) H.tab.lt).trans cs, hide h3⟩)
    have HW : Hid (∀ W, Below w.heap.size w W → Calls Try.prog 59 #[.pointer (some ⟨L.s, 0, none⟩), .int .i64 ((b : Int) + 1), .int .i64 (fr : Int), .string (BA (zerosL (64 - fr)))] W fun e w' => ∃ E : Int, e = .returned (.int .i64 E) ∧ w'.cell? ⟨p, 1, none⟩ = some (.pointer (some ⟨L.s, 0, none⟩)) ∧ Hid (ClrL w w' p L T i x (64 * part + fr) (64 - fr))) := hide (fun W hb => by
      have HB : TL W p L T := H.grownS (S := fun _ => False) (grownS_of_below hb) (H.lt.mono (fun _ _ e => e))
      refine (write_any W L.s L.gs L.hs L.l ((b : Int) + 1) (fr : Int) (zerosL (64 - fr)) HB.store (by omega) (by omega)).mono ?_
      rintro e w' ⟨h1, h2, h3⟩
      have hw : writeL L.l ((b : Int) + 1) (fr : Int) (zerosL (64 - fr)) = L.l.set b (putAt y fr (zerosL (64 - fr))) := by
        unfold writeL
        rw [tkn_of hy, show (!y.isEmpty) = true by cases y with | nil => exact absurd rfl hyn | cons _ _ => rfl, show inB (fr : Int) (((zerosL (64 - fr)).length : Nat) : Int) = true by rw [hzl]; simp [inB]; omega, show ((b : Int) + 1 - 1).toNat = b by omega]
        simp only [Bool.and_self, if_true]
        rw [List.getD_eq_getElem?_getD, hy]
        rfl
      rw [hw] at h2
      have t2 := HB.wrote hi hc hy (by rw [hzl]; omega) h3 h2
      exact ⟨_, h1, t2.tab.cell 1 rfl, hide ⟨_, _, t2, by simp, (grownS_of_below hb).trans h3, rfl⟩⟩)
    obtain ⟨m, hm⟩ : ∃ m, m = L.m i := ⟨_, rfl⟩
    obtain ⟨q, hq⟩ : ∃ q, q = L.q i := ⟨_, rfl⟩
    obtain ⟨s, hs⟩ : ∃ s, s = L.s := ⟨_, rfl⟩
    rw [← hm] at hD cm
    rw [← hq] at cm ⊢
    rw [← hs] at cs HZ HW
    have HD := hide hD
    have HK := hide hkey
    have HH := hide hh2
    have HA := hide hat0
    clear hbyt H hi hR hh hm hq hs hc hD hkey hh2 hat0 hy hyn hzl
    go_enter Try.func53, Try.ntmps53
    go_wp2_with (first
      | (at_lookup; refine wpList_lookup_own_ok_int _ rfl _ _ 78 rfl 3 3 .i64 lawI Try.underlying78 Try.underlying3 (zeroI _) m _ _ rfl (unhide HD) _ _ rfl (unhide HK) ?_; intro c hat hwc; rw [unhide HH]; obtain rfl : c = (b : Int) + 1 := (by rw [unhide HA] at hat; injection hat with hat; injection hat with _ hat; exact hat.symm); clear hat hwc)
      | fail)
    go_region_held3 (fun w' => w'.cell? ⟨p, 1, none⟩ = some (.pointer (some ⟨s, 0, none⟩))) (go_keep) (first
      | (go_at_call 66; refine (unhide HZ _ (by first | exact Below.refl _ _ | exact below_drew _ _)).mono ?_; rintro e wa ⟨rfl, a0, HA2⟩)
      | (go_at_call 59; refine (unhide HW _ (by first | exact (unhide HA2) | exact (unhide HA2).trans ((below_drew _ _).mono (unhide HA2).size))).mono ?_; rintro e wb ⟨E, rfl, b0, HB2⟩))
    go_wp2
    refine bodyPost_end (res0 rfl _ _) rfl ?_
    exact ⟨rfl, HB2⟩

theorem cut_eqA (x : Nd) (s : Nat) (h : s % 64 = 0) : { xkeep x (fun j => decide (j < s / 64)) with size := s } = cutN x s := by
  unfold xkeep cutN
  dsimp only
  congr 1
  · funext j
    by_cases h1 : j < s
    · simp [h1, show j / 64 < s / 64 by omega]
    · simp [h1, show ¬ j / 64 < s / 64 by omega]
  · funext j
    by_cases h1 : 64 * j < s
    · simp [h1, show j < s / 64 by omega]
    · simp [h1, show ¬ j < s / 64 by omega]
theorem cut_eqB (x : Nd) (s : Nat) (h : 0 < s % 64) : { xwr (xkeep x (fun j => decide (j < s / 64 + 1))) (64 * (s / 64) + s % 64) (zerosL (64 - s % 64)) with size := s } = cutN x s := by
  unfold xwr xkeep cutN
  have hl : (zerosL (64 - s % 64)).length = 64 - s % 64 := by simp [zerosL]
  dsimp only
  congr 1
  · funext j
    rw [hl, zerosL_get, show 64 * (s / 64) + s % 64 = s by omega]
    by_cases h1 : j < s
    · rw [if_neg (by omega), if_pos h1]
      simp [show j / 64 < s / 64 + 1 by omega]
    · rw [if_neg h1]
      by_cases h2 : j / 64 < s / 64 + 1
      · rw [if_pos (by omega)]
      · rw [if_neg (by omega)]
        simp [h2]
  · funext j
    by_cases h1 : 64 * j < s
    · simp [h1, show j < s / 64 + 1 by omega]
    · simp [h1, show ¬ j < s / 64 + 1 by omega]
set_option maxRecDepth 20000 in
theorem tcut_nil (i s : Int) (w : World) : Calls Try.prog 29 #[.pointer none, .int .i64 i, .int .i64 s] w fun e w' => e = .returned (.int .i64 2) ∧ w' = w := by
  go_enter Try.func29, Try.ntmps29
  go_wp2_with fail
  refine (tfind_nil i w).mono ?_
  rintro e w1 ⟨rfl, hw1⟩
  rw [show w1 = w from hw1]
  clear hw1
  go_wp2
  go_ret
  exact ⟨rfl, rfl⟩
set_option maxRecDepth 20000 in
set_option maxHeartbeats 1000000 in
theorem tcut_any {w : World} {p nb : Nat} {X : Nat → Prop} {T : TB} (H : TAt w p X T nb) (i s : Int) (hb : -9223372036854775808 ≤ i ∧ i ≤ 9223372036854775807) : Calls Try.prog 29 #[.pointer (some ⟨p, 0, none⟩), .int .i64 i, .int .i64 s] w fun e w' => e = .returned (.int .i64 (cutE T i s)) ∧ TAt w' p X (cutT T i s) nb ∧ GrownS w w' X := by
  have HH : Hid (TAt w p X T nb ∧ GrownS w w X) := hide ⟨H, grownS_of_below (Below.refl _ _)⟩
  obtain ⟨L, HL, hin, hnb⟩ := H
  unfold cutE cutT
  cases hx : ndAt T i with
  | none =>
    have HF := hide (tfind_none HL hx hb)
    clear HL hx hin
    go_enter Try.func29, Try.ntmps29
    go_wp2_with fail
    refine (unhide HF).mono ?_
    rintro e w1 ⟨rfl, hw1⟩
    rw [show w1 = w from hw1]
    clear hw1
    go_wp2
    go_ret
    exact ⟨rfl, unhide HH⟩
  | some x =>
    obtain ⟨k, rfl, hk, _⟩ := ndAt_some hx
    rw [plc_of]
    have HF := hide (tfind_some HL hk)
    dsimp only
    by_cases h1 : s < 0
    · rw [if_pos h1, if_pos (.inl h1)]
      obtain ⟨q, hq⟩ : ∃ q, q = L.q k := ⟨_, rfl⟩
      rw [← hq] at HF
      clear HL hx hin hq hk
      go_enter Try.func29, Try.ntmps29
      go_wp2_with fail
      refine (unhide HF).mono ?_
      rintro e w1 ⟨rfl, hw1⟩
      rw [show w1 = w from hw1]
      clear hw1
      go_wp2
      go_ret
      exact ⟨rfl, unhide HH⟩
    · by_cases h2 : 4096 < s
      · rw [if_neg h1, if_pos h2, if_pos (.inr h2)]
        obtain ⟨q, hq⟩ : ∃ q, q = L.q k := ⟨_, rfl⟩
        rw [← hq] at HF
        clear HL hx hin hq hk
        go_enter Try.func29, Try.ntmps29
        go_wp2_with fail
        refine (unhide HF).mono ?_
        rintro e w1 ⟨rfl, hw1⟩
        rw [show w1 = w from hw1]
        clear hw1
        go_wp2
        go_ret
        exact ⟨rfl, unhide HH⟩
      · rw [if_neg h1, if_neg h2, if_neg (by omega)]
        obtain ⟨s', rfl⟩ : ∃ s' : Nat, s = s' := ⟨s.toNat, by omega⟩
        rw [show ((s' : Int)).toNat = s' by omega]
        have HPL := hide (place_any s' w (by omega))
        have hsub : ∀ w1, GrownS w w1 (fun j => j = L.m k ∨ j = L.gs ∨ j = L.hs) → GrownS w w1 X := fun w1 h => h.mono (fun j _ e => by rcases e with e | e | e; rw [e]; exact (hin.each k x hk).2; rw [e]; exact hin.gs; rw [e]; exact hin.hs)
        by_cases h0 : s' % 64 = 0
        · have HG := hide (giveFrom_any HL hk (s' / 64))
          have HE : Hid (∀ w1, (∃ pf l, TL w1 p { L with pf := updF L.pf k pf, l := l } (T.set k (some (xkeep x (fun j => decide (j < s' / 64))))) ∧ l.length = L.l.length ∧ GrownS w w1 (fun j => j = L.m k ∨ j = L.gs ∨ j = L.hs)) →
              ((∃ v, w1.cell? ⟨L.q k, 3, none⟩ = some v) ∧ w1.frozen? ⟨L.q k, 3, none⟩ = false) ∧ Hid (TAt (w1.setCell ⟨L.q k, 3, none⟩ (.int .i64 (s' : Int))) p X (T.set k (some (cutN x s'))) nb ∧ GrownS w (w1.setCell ⟨L.q k, 3, none⟩ (.int .i64 (s' : Int))) X)) := hide (fun w1 ⟨pf, l, t1, t2, t3⟩ => by
            have hbk := (t1.node k _ (set_same hk)).blk
            have hct := t1.cellTurn (nb := nb) (hin.step hk _ _ _) (by show l.length = nb; omega) (set_same hk) (c := 3) (v := .int .i64 (s' : Int)) (x' := cutN x s') (by
              rw [← cut_eqA x s' h0]
              exact hbk.set 3 _) (by rw [← cut_eqA x s' h0]) (by rw [← cut_eqA x s' h0])
            rw [List.set_set] at hct
            exact ⟨⟨⟨_, hbk.cell 3 rfl⟩, hbk.frozen 3⟩, hide ⟨hct.1, (hsub w1 t3).trans hct.2⟩⟩)
          obtain ⟨PX, hPX⟩ : ∃ P : World → Prop, P = fun w1 => ∃ pf l, TL w1 p { L with pf := updF L.pf k pf, l := l } (T.set k (some (xkeep x (fun j => decide (j < s' / 64))))) ∧ l.length = L.l.length ∧ GrownS w w1 (fun j => j = L.m k ∨ j = L.gs ∨ j = L.hs) := ⟨_, rfl⟩
          replace HG : Hid (Calls Try.prog 52 #[.pointer (some ⟨p, 0, none⟩), .pointer (some ⟨L.q k, 0, none⟩), .int .i64 ((s' / 64 : Nat) : Int)] w fun e w' => e = .returned (.tuple #[]) ∧ PX w') := hide (by rw [hPX]; exact unhide HG)
          replace HE : Hid (∀ w1, PX w1 → ((∃ v, w1.cell? ⟨L.q k, 3, none⟩ = some v) ∧ w1.frozen? ⟨L.q k, 3, none⟩ = false) ∧ Hid (TAt (w1.setCell ⟨L.q k, 3, none⟩ (.int .i64 (s' : Int))) p X (T.set k (some (cutN x s'))) nb ∧ GrownS w (w1.setCell ⟨L.q k, 3, none⟩ (.int .i64 (s' : Int))) X)) := hide (by rw [hPX]; exact unhide HE)
          obtain ⟨q, hq⟩ : ∃ q, q = L.q k := ⟨_, rfl⟩
          rw [← hq] at HF HG HE
          obtain ⟨pt, hpt⟩ : ∃ pt, pt = s' / 64 := ⟨_, rfl⟩
          rw [h0, ← hpt] at HPL
          rw [← hpt] at HG
          clear HL hx hin hq hk hPX hsub hpt h0 HH
          go_enter Try.func29, Try.ntmps29
          go_wp2_with fail
          refine (unhide HF).mono ?_
          rintro e w1 ⟨rfl, hw1⟩
          rw [show w1 = w from hw1]
          clear hw1
          go_wp2_with fail
          refine (unhide HPL).mono ?_
          rintro e w1 ⟨rfl, hw1⟩
          rw [show w1 = w from hw1]
          clear hw1
          go_wp2_with fail
          refine (unhide HG).mono ?_
          rintro e w1 ⟨rfl, h3⟩
          obtain ⟨⟨⟨v, c1⟩, f1⟩, HX⟩ := unhide HE w1 h3
          clear h3 HE HG
          go_wp2
          go_ret
          exact ⟨rfl, unhide HX⟩
        · have HG := hide (giveFrom_any HL hk (s' / 64 + 1))
          have HE : Hid (∀ w1, (∃ pf l, TL w1 p { L with pf := updF L.pf k pf, l := l } (T.set k (some (xkeep x (fun j => decide (j < s' / 64 + 1))))) ∧ l.length = L.l.length ∧ GrownS w w1 (fun j => j = L.m k ∨ j = L.gs ∨ j = L.hs)) →
              Calls Try.prog 53 #[.pointer (some ⟨p, 0, none⟩), .pointer (some ⟨L.q k, 0, none⟩), .int .i64 ((s' / 64 : Nat) : Int), .int .i64 ((s' % 64 : Nat) : Int)] w1 fun e w2 => e = .returned (.tuple #[]) ∧
              ((∃ v, w2.cell? ⟨L.q k, 3, none⟩ = some v) ∧ w2.frozen? ⟨L.q k, 3, none⟩ = false) ∧ Hid (TAt (w2.setCell ⟨L.q k, 3, none⟩ (.int .i64 (s' : Int))) p X (T.set k (some (cutN x s'))) nb ∧ GrownS w (w2.setCell ⟨L.q k, 3, none⟩ (.int .i64 (s' : Int))) X)) := hide (fun w1 ⟨pf, l, t1, t2, t3⟩ => by
            refine (clear_any t1 (set_same hk) (s' / 64) (s' % 64) (by omega) (by omega)).mono ?_
            rintro e w2 ⟨h3, l2, x2, u1, u2, u3, u4⟩
            subst u4
            rw [List.set_set] at u1
            have u2 : l2.length = l.length := u2
            have hbk := (u1.node k _ (set_same hk)).blk
            have hct := u1.cellTurn (nb := nb) (hin.step hk _ _ _) (by show l2.length = nb; omega) (set_same hk) (c := 3) (v := .int .i64 (s' : Int)) (x' := cutN x s') (by
              rw [← cut_eqB x s' (by omega)]
              exact hbk.set 3 _) (by rw [← cut_eqB x s' (by omega)]) (by rw [← cut_eqB x s' (by omega)])
            rw [List.set_set] at hct
            exact ⟨h3, ⟨⟨_, hbk.cell 3 rfl⟩, hbk.frozen 3⟩, hide ⟨hct.1, ((hsub w1 t3).trans (u3.mono (fun j _ e => by rw [show j = L.gs from e]; exact hin.gs))).trans hct.2⟩⟩)
          obtain ⟨PX, hPX⟩ : ∃ P : World → Prop, P = fun w1 => ∃ pf l, TL w1 p { L with pf := updF L.pf k pf, l := l } (T.set k (some (xkeep x (fun j => decide (j < s' / 64 + 1))))) ∧ l.length = L.l.length ∧ GrownS w w1 (fun j => j = L.m k ∨ j = L.gs ∨ j = L.hs) := ⟨_, rfl⟩
          replace HG : Hid (Calls Try.prog 52 #[.pointer (some ⟨p, 0, none⟩), .pointer (some ⟨L.q k, 0, none⟩), .int .i64 ((s' / 64 + 1 : Nat) : Int)] w fun e w' => e = .returned (.tuple #[]) ∧ PX w') := hide (by rw [hPX]; exact unhide HG)
          replace HE : Hid (∀ w1, PX w1 → Calls Try.prog 53 #[.pointer (some ⟨p, 0, none⟩), .pointer (some ⟨L.q k, 0, none⟩), .int .i64 ((s' / 64 : Nat) : Int), .int .i64 ((s' % 64 : Nat) : Int)] w1 fun e w2 => e = .returned (.tuple #[]) ∧
              ((∃ v, w2.cell? ⟨L.q k, 3, none⟩ = some v) ∧ w2.frozen? ⟨L.q k, 3, none⟩ = false) ∧ Hid (TAt (w2.setCell ⟨L.q k, 3, none⟩ (.int .i64 (s' : Int))) p X (T.set k (some (cutN x s'))) nb ∧ GrownS w (w2.setCell ⟨L.q k, 3, none⟩ (.int .i64 (s' : Int))) X)) := hide (by rw [hPX]; exact unhide HE)
          obtain ⟨q, hq⟩ : ∃ q, q = L.q k := ⟨_, rfl⟩
          rw [← hq] at HF HG HE
          obtain ⟨pt, hpt⟩ : ∃ pt, pt = s' / 64 := ⟨_, rfl⟩
          obtain ⟨fr, hfr⟩ : ∃ fr, fr = s' % 64 := ⟨_, rfl⟩
          rw [← hpt, ← hfr] at HPL HE
          rw [← hpt] at HG
          have hf0 : ((fr : Int) == 0) = false := by simp; omega
          have hptb : pt ≤ 1000 := by omega
          clear HL hx hin hq hk hPX hsub hpt hfr h0 HH
          go_enter Try.func29, Try.ntmps29
          go_wp2_with fail
          refine (unhide HF).mono ?_
          rintro e w1 ⟨rfl, hw1⟩
          rw [show w1 = w from hw1]
          clear hw1
          go_wp2_with fail
          refine (unhide HPL).mono ?_
          rintro e w1 ⟨rfl, hw1⟩
          rw [show w1 = w from hw1]
          clear hw1
          go_wp2_with fail
          refine (unhide HG).mono ?_
          rintro e w1 ⟨rfl, h3⟩
          have HC := hide (unhide HE w1 h3)
          clear h3 HE HG
          go_wp2_with fail
          refine (unhide HC).mono ?_
          rintro e w2 ⟨rfl, ⟨⟨v, c1⟩, f1⟩, HX⟩
          go_wp2
          go_ret
          exact ⟨rfl, unhide HX⟩

end Go.Proofs.Ytcfhgjlihifmnaa
