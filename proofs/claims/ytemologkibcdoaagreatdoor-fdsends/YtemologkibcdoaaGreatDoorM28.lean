/-
  clear; Cut.
  Files (stage 14): the tree's calls that stage 13 left: Root, Read, Cut, Free.
-/
import Derived.Test.YtemologkibcdoaaGreatDoorM10
import Derived.Deep.RegionHeld3
import Derived.Test.YtemologkibcdoaaGreatDoorM27

/- clear; Cut. -/
namespace Go.Proofs.YtemologkibcdoaaGreatDoor
open Go.RowKit Go.Maps

/-- What clear leaves. -/
def ClrL (w w' : World) (p : Nat) (L : Lay) (T : TB) (i : Nat) (x : Nd) (o n : Nat) : Prop :=
  ∃ l x', TL w' p { L with pf := updF L.pf i (L.pf i), l := l } (T.set i (some x')) ∧ l.length = L.l.length ∧ GrownS w w' (fun k => k = L.gs) ∧ x' = xwr x o (zerosL n)
theorem zerosL_get (n j : Nat) : (zerosL n).getD j 0 = 0 := by
  unfold zerosL
  rw [List.getD_eq_getElem?_getD, List.getElem?_replicate]
  split <;> rfl
set_option maxRecDepth 20000 in
set_option maxHeartbeats 1000000 in
theorem clear_any {w : World} {p : Nat} {L : Lay} {T : TB} (H : TL w p L T) {i : Nat} {x : Nd} (hi : T[i]? = some (some x)) (part fr : Nat) (hp : part ≤ 1000) (hf : fr < 64) :
    Calls Tryz.prog 112 #[.pointer (some ⟨p, 0, none⟩), .pointer (some ⟨L.q i, 0, none⟩), .int .i64 (part : Int), .int .i64 (fr : Int)] w fun e w' => e = .returned (.tuple #[]) ∧ Hid (ClrL w w' p L T i x (64 * part + fr) (64 - fr)) := by
  obtain ⟨D, hD, hR⟩ := (H.node i x hi).own
  have cm : w.cell? ⟨L.q i, 4, none⟩ = some (.map (some (L.m i))) := (H.node i x hi).blk.cell 4 rfl
  have cs : w.cell? ⟨p, 1, none⟩ = some (.pointer (some ⟨L.s, 0, none⟩)) := H.tab.cell 1 rfl
  have hbyt := H.byte i x hi
  have hkey := keyI (a := (part : Int)) (by simp [Lit.wf, IntKind.min, IntKind.max, IntKind.signed, IntKind.bits]; omega)
  have hh := hR.has (part : Int)
  rw [show ((part : Int)).toNat = part by omega] at hh
  have hzl : (zerosL (64 - fr)).length = 64 - fr := by simp [zerosL]
  cases hc : L.pf i part with
  | none =>
    have hh2 : Maps.has D (.int .i64 (part : Int)) = false := by rw [hh]; unfold isS; rw [hc]; simp
    have HE : Hid (ClrL w w p L T i x (64 * part + fr) (64 - fr)) := hide (by
      refine ⟨L.l, x, by rw [set_self hi, updF_self]; exact H, rfl, grownS_of_below (Below.refl _ _), ?_⟩
      unfold xwr
      cases x with
      | mk kind names users size byt has =>
        congr 1
        funext j
        dsimp only
        split
        · rename_i hj
          rw [zerosL_get]
          have h2 := hbyt j
          dsimp only at h2
          rw [h2]
          unfold byteOf
          rw [show j / 64 = part by omega, hc]
        · rfl)
    obtain ⟨m, hm⟩ : ∃ m, m = L.m i := ⟨_, rfl⟩
    obtain ⟨q, hq⟩ : ∃ q, q = L.q i := ⟨_, rfl⟩
    rw [← hm] at hD cm
    rw [← hq] at cm ⊢
    have HD := hide hD
    have HK := hide hkey
    have HH := hide hh2
    clear hbyt H hi hR hh hm hq hc hD hkey hh2 hzl
    go_enter Tryz.func112, Tryz.ntmps112
    go_wp2_with (first
      | (at_lookup; refine wpList_lookup_own_ok_int _ rfl _ _ 153 rfl 3 3 .i64 lawI Tryz.underlying153 Tryz.underlying3 (zeroI _) m _ _ rfl (unhide HD) _ _ rfl (unhide HK) ?_; intro c hat hwc; rw [unhide HH]; have HC := hide hat; clear hat)
      | go_in)
    refine bodyPost_end (res0 rfl _ _) rfl ?_
    exact ⟨rfl, HE⟩
  | some b =>
    have hh2 : Maps.has D (.int .i64 (part : Int)) = true := by rw [hh]; unfold isS; rw [hc]; simp
    have hat0 := hR.at' part b hc (.lit (.int .i64 0))
    obtain ⟨y, hy, hyn⟩ := H.part i x hi part b hc
    have hbl := (List.getElem?_eq_some_iff.1 hy).1
    have hmx := H.store.wf.max
    have HZ : Hid (∀ W, Below w.heap.size w W → Calls Tryz.prog 120 #[.int .i64 (IntKind.i64.wrap (64 - (fr : Int)))] W fun e w' => e = .returned (.string (BA (zerosL (64 - fr)))) ∧ w'.cell? ⟨p, 1, none⟩ = some (.pointer (some ⟨L.s, 0, none⟩)) ∧ Hid (Below w.heap.size w w')) := hide (fun W hb => by
      have := zeros_any (64 - fr) W (by omega)
      rw [show (((64 - fr : Nat)) : Int) = IntKind.i64.wrap (64 - (fr : Int)) by rw [IntKind.wrap_i64]; omega] at this
      refine this.mono ?_
      rintro e w' ⟨h1, h2⟩
      have h3 := hb.trans (h2.mono hb.size)
      exact ⟨h1, (h3.cell (p := ⟨p, 1, none⟩) H.tab.lt).trans cs, hide h3⟩)
    have HW : Hid (∀ W, Below w.heap.size w W → Calls Tryz.prog 142 #[.pointer (some ⟨L.s, 0, none⟩), .int .i64 ((b : Int) + 1), .int .i64 (fr : Int), .string (BA (zerosL (64 - fr)))] W fun e w' => ∃ E : Int, e = .returned (.int .i64 E) ∧ w'.cell? ⟨p, 1, none⟩ = some (.pointer (some ⟨L.s, 0, none⟩)) ∧ Hid (ClrL w w' p L T i x (64 * part + fr) (64 - fr))) := hide (fun W hb => by
      have HB : TL W p L T := H.grownS (S := fun _ => False) (grownS_of_below hb) (H.lt.mono (fun _ _ e => e))
      refine (write_any W L.s L.gs L.hs L.l ((b : Int) + 1) (fr : Int) (zerosL (64 - fr)) HB.store (by omega) (by omega)).mono ?_
      rintro e w' ⟨h1, h2, h3⟩
      have hw : writeL L.l ((b : Int) + 1) (fr : Int) (zerosL (64 - fr)) = L.l.set b (putAt y fr (zerosL (64 - fr))) := by
        unfold writeL
        rw [tkn_of hy, show (!y.isEmpty) = true by cases y with | nil => exact absurd rfl hyn | cons _ _ => rfl, show inB (fr : Int) (((zerosL (64 - fr)).length : Nat) : Int) = true by rw [hzl]; simp [inB]; omega, show ((b : Int) + 1 - 1).toNat = b by omega]
        simp only [Bool.and_self, if_true]
        rw [List.getD_eq_getElem?_getD, hy]
        rfl
      rw [hw] at h2
      have t2 := HB.wrote hi hc hy (by rw [hzl]; omega) h3 h2
      exact ⟨_, h1, t2.tab.cell 1 rfl, hide ⟨_, _, t2, by simp, (grownS_of_below hb).trans h3, rfl⟩⟩)
    obtain ⟨m, hm⟩ : ∃ m, m = L.m i := ⟨_, rfl⟩
    obtain ⟨q, hq⟩ : ∃ q, q = L.q i := ⟨_, rfl⟩
    obtain ⟨s, hs⟩ : ∃ s, s = L.s := ⟨_, rfl⟩
    rw [← hm] at hD cm
    rw [← hq] at cm ⊢
    rw [← hs] at cs HZ HW
    have HD := hide hD
    have HK := hide hkey
    have HH := hide hh2
    have HA := hide hat0
    clear hbyt H hi hR hh hm hq hs hc hD hkey hh2 hat0 hy hyn hzl
    go_enter Tryz.func112, Tryz.ntmps112
    go_wp2_with (first
      | (at_lookup; refine wpList_lookup_own_ok_int _ rfl _ _ 153 rfl 3 3 .i64 lawI Tryz.underlying153 Tryz.underlying3 (zeroI _) m _ _ rfl (unhide HD) _ _ rfl (unhide HK) ?_; intro c hat hwc; rw [unhide HH]; obtain rfl : c = (b : Int) + 1 := (by rw [unhide HA] at hat; injection hat with hat; injection hat with _ hat; exact hat.symm); clear hat hwc)
      | fail)
    go_region_held3 (fun w' => w'.cell? ⟨p, 1, none⟩ = some (.pointer (some ⟨s, 0, none⟩))) (go_keep) (first
      | (go_at_call 120; refine (unhide HZ _ (by first | exact Below.refl _ _ | exact below_drew _ _)).mono ?_; rintro e wa ⟨rfl, a0, HA2⟩)
      | (go_at_call 142; refine (unhide HW _ (by first | exact (unhide HA2) | exact (unhide HA2).trans ((below_drew _ _).mono (unhide HA2).size))).mono ?_; rintro e wb ⟨E, rfl, b0, HB2⟩))
    go_wp2
    refine bodyPost_end (res0 rfl _ _) rfl ?_
    exact ⟨rfl, HB2⟩

theorem cut_eqA (x : Nd) (s : Nat) (h : s % 64 = 0) : { xkeep x (fun j => decide (j < s / 64)) with size := s } = cutN x s := by
  unfold xkeep cutN
  dsimp only
  congr 1
  · funext j
    by_cases h1 : j < s
    · simp [h1, show j / 64 < s / 64 by omega]
    · simp [h1, show ¬ j / 64 < s / 64 by omega]
  · funext j
    by_cases h1 : 64 * j < s
    · simp [h1, show j < s / 64 by omega]
    · simp [h1, show ¬ j < s / 64 by omega]
theorem cut_eqB (x : Nd) (s : Nat) (h : 0 < s % 64) : { xwr (xkeep x (fun j => decide (j < s / 64 + 1))) (64 * (s / 64) + s % 64) (zerosL (64 - s % 64)) with size := s } = cutN x s := by
  unfold xwr xkeep cutN
  have hl : (zerosL (64 - s % 64)).length = 64 - s % 64 := by simp [zerosL]
  dsimp only
  congr 1
  · funext j
    rw [hl, zerosL_get, show 64 * (s / 64) + s % 64 = s by omega]
    by_cases h1 : j < s
    · rw [if_neg (by omega), if_pos h1]
      simp [show j / 64 < s / 64 + 1 by omega]
    · rw [if_neg h1]
      by_cases h2 : j / 64 < s / 64 + 1
      · rw [if_pos (by omega)]
      · rw [if_neg (by omega)]
        simp [h2]
  · funext j
    by_cases h1 : 64 * j < s
    · simp [h1, show j < s / 64 + 1 by omega]
    · simp [h1, show ¬ j < s / 64 + 1 by omega]
set_option maxRecDepth 20000 in
theorem tcut_nil (i s : Int) (w : World) : Calls Tryz.prog 86 #[.pointer none, .int .i64 i, .int .i64 s] w fun e w' => e = .returned (.int .i64 2) ∧ w' = w := by
  go_enter Tryz.func86, Tryz.ntmps86
  go_wp2_with fail
  refine (tfind_nil i w).mono ?_
  rintro e w1 ⟨rfl, hw1⟩
  rw [show w1 = w from hw1]
  clear hw1
  go_wp2
  go_ret
  exact ⟨rfl, rfl⟩
set_option maxRecDepth 20000 in
set_option maxHeartbeats 1000000 in
theorem tcut_any {w : World} {p nb : Nat} {X : Nat → Prop} {T : TB} (H : TAt w p X T nb) (i s : Int) (hb : -9223372036854775808 ≤ i ∧ i ≤ 9223372036854775807) : Calls Tryz.prog 86 #[.pointer (some ⟨p, 0, none⟩), .int .i64 i, .int .i64 s] w fun e w' => e = .returned (.int .i64 (cutE T i s)) ∧ TAt w' p X (cutT T i s) nb ∧ GrownS w w' X := by
  have HH : Hid (TAt w p X T nb ∧ GrownS w w X) := hide ⟨H, grownS_of_below (Below.refl _ _)⟩
  obtain ⟨L, HL, hin, hnb⟩ := H
  unfold cutE cutT
  cases hx : ndAt T i with
  | none =>
    have HF := hide (tfind_none HL hx hb)
    clear HL hx hin
    go_enter Tryz.func86, Tryz.ntmps86
    go_wp2_with fail
    refine (unhide HF).mono ?_
    rintro e w1 ⟨rfl, hw1⟩
    rw [show w1 = w from hw1]
    clear hw1
    go_wp2
    go_ret
    exact ⟨rfl, unhide HH⟩
  | some x =>
    obtain ⟨k, rfl, hk, _⟩ := ndAt_some hx
    rw [plc_of]
    have HF := hide (tfind_some HL hk)
    dsimp only
    by_cases h1 : s < 0
    · rw [if_pos h1, if_pos (.inl h1)]
      obtain ⟨q, hq⟩ : ∃ q, q = L.q k := ⟨_, rfl⟩
      rw [← hq] at HF
      clear HL hx hin hq hk
      go_enter Tryz.func86, Tryz.ntmps86
      go_wp2_with fail
      refine (unhide HF).mono ?_
      rintro e w1 ⟨rfl, hw1⟩
      rw [show w1 = w from hw1]
      clear hw1
      go_wp2
      go_ret
      exact ⟨rfl, unhide HH⟩
    · by_cases h2 : 4096 < s
      · rw [if_neg h1, if_pos h2, if_pos (.inr h2)]
        obtain ⟨q, hq⟩ : ∃ q, q = L.q k := ⟨_, rfl⟩
        rw [← hq] at HF
        clear HL hx hin hq hk
        go_enter Tryz.func86, Tryz.ntmps86
        go_wp2_with fail
        refine (unhide HF).mono ?_
        rintro e w1 ⟨rfl, hw1⟩
        rw [show w1 = w from hw1]
        clear hw1
        go_wp2
        go_ret
        exact ⟨rfl, unhide HH⟩
      · rw [if_neg h1, if_neg h2, if_neg (by omega)]
        obtain ⟨s', rfl⟩ : ∃ s' : Nat, s = s' := ⟨s.toNat, by omega⟩
        rw [show ((s' : Int)).toNat = s' by omega]
        have HPL := hide (place_any s' w (by omega))
        have hsub : ∀ w1, GrownS w w1 (fun j => j = L.m k ∨ j = L.gs ∨ j = L.hs) → GrownS w w1 X := fun w1 h => h.mono (fun j _ e => by rcases e with e | e | e; rw [e]; exact (hin.each k x hk).2; rw [e]; exact hin.gs; rw [e]; exact hin.hs)
        by_cases h0 : s' % 64 = 0
        · have HG := hide (giveFrom_any HL hk (s' / 64))
          have HE : Hid (∀ w1, (∃ pf l, TL w1 p { L with pf := updF L.pf k pf, l := l } (T.set k (some (xkeep x (fun j => decide (j < s' / 64))))) ∧ l.length = L.l.length ∧ GrownS w w1 (fun j => j = L.m k ∨ j = L.gs ∨ j = L.hs)) →
              ((∃ v, w1.cell? ⟨L.q k, 3, none⟩ = some v) ∧ w1.frozen? ⟨L.q k, 3, none⟩ = false) ∧ Hid (TAt (w1.setCell ⟨L.q k, 3, none⟩ (.int .i64 (s' : Int))) p X (T.set k (some (cutN x s'))) nb ∧ GrownS w (w1.setCell ⟨L.q k, 3, none⟩ (.int .i64 (s' : Int))) X)) := hide (fun w1 ⟨pf, l, t1, t2, t3⟩ => by
            have hbk := (t1.node k _ (set_same hk)).blk
            have hct := t1.cellTurn (nb := nb) (hin.step hk _ _ _) (by show l.length = nb; omega) (set_same hk) (c := 3) (v := .int .i64 (s' : Int)) (x' := cutN x s') (by
              rw [← cut_eqA x s' h0]
              exact hbk.set 3 _) (by rw [← cut_eqA x s' h0]) (by rw [← cut_eqA x s' h0])
            rw [List.set_set] at hct
            exact ⟨⟨⟨_, hbk.cell 3 rfl⟩, hbk.frozen 3⟩, hide ⟨hct.1, (hsub w1 t3).trans hct.2⟩⟩)
          obtain ⟨PX, hPX⟩ : ∃ P : World → Prop, P = fun w1 => ∃ pf l, TL w1 p { L with pf := updF L.pf k pf, l := l } (T.set k (some (xkeep x (fun j => decide (j < s' / 64))))) ∧ l.length = L.l.length ∧ GrownS w w1 (fun j => j = L.m k ∨ j = L.gs ∨ j = L.hs) := ⟨_, rfl⟩
          replace HG : Hid (Calls Tryz.prog 106 #[.pointer (some ⟨p, 0, none⟩), .pointer (some ⟨L.q k, 0, none⟩), .int .i64 ((s' / 64 : Nat) : Int)] w fun e w' => e = .returned (.tuple #[]) ∧ PX w') := hide (by rw [hPX]; exact unhide HG)
          replace HE : Hid (∀ w1, PX w1 → ((∃ v, w1.cell? ⟨L.q k, 3, none⟩ = some v) ∧ w1.frozen? ⟨L.q k, 3, none⟩ = false) ∧ Hid (TAt (w1.setCell ⟨L.q k, 3, none⟩ (.int .i64 (s' : Int))) p X (T.set k (some (cutN x s'))) nb ∧ GrownS w (w1.setCell ⟨L.q k, 3, none⟩ (.int .i64 (s' : Int))) X)) := hide (by rw [hPX]; exact unhide HE)
          obtain ⟨q, hq⟩ : ∃ q, q = L.q k := ⟨_, rfl⟩
          rw [← hq] at HF HG HE
          obtain ⟨pt, hpt⟩ : ∃ pt, pt = s' / 64 := ⟨_, rfl⟩
          rw [h0, ← hpt] at HPL
          rw [← hpt] at HG
          clear HL hx hin hq hk hPX hsub hpt h0 HH
          go_enter Tryz.func86, Tryz.ntmps86
          go_wp2_with fail
          refine (unhide HF).mono ?_
          rintro e w1 ⟨rfl, hw1⟩
          rw [show w1 = w from hw1]
          clear hw1
          go_wp2_with fail
          refine (unhide HPL).mono ?_
          rintro e w1 ⟨rfl, hw1⟩
          rw [show w1 = w from hw1]
          clear hw1
          go_wp2_with fail
          refine (unhide HG).mono ?_
          rintro e w1 ⟨rfl, h3⟩
          obtain ⟨⟨⟨v, c1⟩, f1⟩, HX⟩ := unhide HE w1 h3
          clear h3 HE HG
          go_wp2
          go_ret
          exact ⟨rfl, unhide HX⟩
        · have HG := hide (giveFrom_any HL hk (s' / 64 + 1))
          have HE : Hid (∀ w1, (∃ pf l, TL w1 p { L with pf := updF L.pf k pf, l := l } (T.set k (some (xkeep x (fun j => decide (j < s' / 64 + 1))))) ∧ l.length = L.l.length ∧ GrownS w w1 (fun j => j = L.m k ∨ j = L.gs ∨ j = L.hs)) →
              Calls Tryz.prog 112 #[.pointer (some ⟨p, 0, none⟩), .pointer (some ⟨L.q k, 0, none⟩), .int .i64 ((s' / 64 : Nat) : Int), .int .i64 ((s' % 64 : Nat) : Int)] w1 fun e w2 => e = .returned (.tuple #[]) ∧
              ((∃ v, w2.cell? ⟨L.q k, 3, none⟩ = some v) ∧ w2.frozen? ⟨L.q k, 3, none⟩ = false) ∧ Hid (TAt (w2.setCell ⟨L.q k, 3, none⟩ (.int .i64 (s' : Int))) p X (T.set k (some (cutN x s'))) nb ∧ GrownS w (w2.setCell ⟨L.q k, 3, none⟩ (.int .i64 (s' : Int))) X)) := hide (fun w1 ⟨pf, l, t1, t2, t3⟩ => by
            refine (clear_any t1 (set_same hk) (s' / 64) (s' % 64) (by omega) (by omega)).mono ?_
            rintro e w2 ⟨h3, l2, x2, u1, u2, u3, u4⟩
            subst u4
            rw [List.set_set] at u1
            have u2 : l2.length = l.length := u2
            have hbk := (u1.node k _ (set_same hk)).blk
            have hct := u1.cellTurn (nb := nb) (hin.step hk _ _ _) (by show l2.length = nb; omega) (set_same hk) (c := 3) (v := .int .i64 (s' : Int)) (x' := cutN x s') (by
              rw [← cut_eqB x s' (by omega)]
              exact hbk.set 3 _) (by rw [← cut_eqB x s' (by omega)]) (by rw [← cut_eqB x s' (by omega)])
            rw [List.set_set] at hct
            exact ⟨h3, ⟨⟨_, hbk.cell 3 rfl⟩, hbk.frozen 3⟩, hide ⟨hct.1, ((hsub w1 t3).trans (u3.mono (fun j _ e => by rw [show j = L.gs from e]; exact hin.gs))).trans hct.2⟩⟩)
          obtain ⟨PX, hPX⟩ : ∃ P : World → Prop, P = fun w1 => ∃ pf l, TL w1 p { L with pf := updF L.pf k pf, l := l } (T.set k (some (xkeep x (fun j => decide (j < s' / 64 + 1))))) ∧ l.length = L.l.length ∧ GrownS w w1 (fun j => j = L.m k ∨ j = L.gs ∨ j = L.hs) := ⟨_, rfl⟩
          replace HG : Hid (Calls Tryz.prog 106 #[.pointer (some ⟨p, 0, none⟩), .pointer (some ⟨L.q k, 0, none⟩), .int .i64 ((s' / 64 + 1 : Nat) : Int)] w fun e w' => e = .returned (.tuple #[]) ∧ PX w') := hide (by rw [hPX]; exact unhide HG)
          replace HE : Hid (∀ w1, PX w1 → Calls Tryz.prog 112 #[.pointer (some ⟨p, 0, none⟩), .pointer (some ⟨L.q k, 0, none⟩), .int .i64 ((s' / 64 : Nat) : Int), .int .i64 ((s' % 64 : Nat) : Int)] w1 fun e w2 => e = .returned (.tuple #[]) ∧
              ((∃ v, w2.cell? ⟨L.q k, 3, none⟩ = some v) ∧ w2.frozen? ⟨L.q k, 3, none⟩ = false) ∧ Hid (TAt (w2.setCell ⟨L.q k, 3, none⟩ (.int .i64 (s' : Int))) p X (T.set k (some (cutN x s'))) nb ∧ GrownS w (w2.setCell ⟨L.q k, 3, none⟩ (.int .i64 (s' : Int))) X)) := hide (by rw [hPX]; exact unhide HE)
          obtain ⟨q, hq⟩ : ∃ q, q = L.q k := ⟨_, rfl⟩
          rw [← hq] at HF HG HE
          obtain ⟨pt, hpt⟩ : ∃ pt, pt = s' / 64 := ⟨_, rfl⟩
          obtain ⟨fr, hfr⟩ : ∃ fr, fr = s' % 64 := ⟨_, rfl⟩
          rw [← hpt, ← hfr] at HPL HE
          rw [← hpt] at HG
          have hf0 : ((fr : Int) == 0) = false := by simp; omega
          have hptb : pt ≤ 1000 := by omega
          clear HL hx hin hq hk hPX hsub hpt hfr h0 HH
          go_enter Tryz.func86, Tryz.ntmps86
          go_wp2_with fail
          refine (unhide HF).mono ?_
          rintro e w1 ⟨rfl, hw1⟩
          rw [show w1 = w from hw1]
          clear hw1
          go_wp2_with fail
          refine (unhide HPL).mono ?_
          rintro e w1 ⟨rfl, hw1⟩
          rw [show w1 = w from hw1]
          clear hw1
          go_wp2_with fail
          refine (unhide HG).mono ?_
          rintro e w1 ⟨rfl, h3⟩
          have HC := hide (unhide HE w1 h3)
          clear h3 HE HG
          go_wp2_with fail
          refine (unhide HC).mono ?_
          rintro e w2 ⟨rfl, ⟨⟨v, c1⟩, f1⟩, HX⟩
          go_wp2
          go_ret
          exact ⟨rfl, unhide HX⟩

end Go.Proofs.YtemologkibcdoaaGreatDoor

/- Files (stage 14): the tree's calls that stage 13 left: Root, Read, Cut, Free. -/
namespace Go.Proofs.YtemologkibcdoaaGreatDoor
open Go.RowKit Go.Maps

set_option maxRecDepth 20000 in
set_option maxHeartbeats 1000000 in
theorem froot_any {w : World} {f q nb n : Nat} {B : Bas} {Y : Nat → Prop} {s : NS} (H : FX w f q Y s nb n B) : Calls Tryz.prog 83 #[.pointer (some ⟨f, 0, none⟩)] w fun e w' => e = .returned (.int .i64 1) ∧ w' = w := by
  have HE := hide (empty_any H)
  clear H
  go_enter Tryz.func83, Tryz.ntmps83
  go_wp2_with fail
  refine (unhide HE).mono ?_
  rintro e w1 ⟨rfl, hw1⟩
  subst hw1
  go_wp2_with fail
  go_ret
  exact ⟨rfl, rfl⟩
def nrdE (s : NS) (d a n : Int) : Int := if filE s d = 0 then rdE s.T d a n else filE s d
def nrdT (s : NS) (d a n : Int) : List UInt8 := if filE s d = 0 then rdT s.T d a n else []
set_option maxRecDepth 20000 in
set_option maxHeartbeats 1000000 in
theorem fread_any {w : World} {f q nb n : Nat} {B : Bas} {Y : Nat → Prop} {s : NS} (H : FX w f q Y s nb n B) (d a m : Int) (hb : -9223372036854775808 ≤ d ∧ d ≤ 9223372036854775807) (ha : a ≤ 9223372036854775807) : Calls Tryz.prog 21 #[.pointer (some ⟨f, 0, none⟩), .int .i64 d, .int .i64 a, .int .i64 m] w fun e w' => e = .returned (.tuple #[.string (BA (nrdT s d a m)), .int .i64 (nrdE s d a m)]) ∧ Below w.heap.size w w' := by
  have c0 : w.cell? ⟨f, 0, none⟩ = some (.pointer (some ⟨q, 0, none⟩)) := H.blk.cell 0 rfl
  have HR := hide (refuseBytes_any H d hb)
  obtain ⟨t, X, c1, htab, hX, hturn⟩ := (H.nd.at'.toG H.nd.ok).tbl H.new
  have HT := hide (tread_any htab (fun k y hy => (H.nd.ok.gd k y hy).1.size) d a m hb ha)
  unfold nrdE nrdT
  obtain ⟨E0, hE0⟩ : ∃ E0, E0 = filE s d := ⟨_, rfl⟩
  rw [← hE0] at HR ⊢
  obtain ⟨RT, hRT⟩ : ∃ RT, RT = rdT s.T d a m := ⟨_, rfl⟩
  obtain ⟨RE, hRE⟩ : ∃ RE, RE = rdE s.T d a m := ⟨_, rfl⟩
  rw [← hRT, ← hRE] at HT ⊢
  clear H htab hX hturn hE0 hRT hRE
  by_cases h0 : E0 = 0
  · subst h0
    rw [if_pos rfl, if_pos rfl]
    go_enter Tryz.func21, Tryz.ntmps21
    go_wp2_with fail
    refine (unhide HR).mono ?_
    rintro e w1 ⟨rfl, hw1⟩
    subst hw1
    go_wp2_with fail
    refine (unhide HT).mono ?_
    rintro e w2 ⟨rfl, b2⟩
    have HB2 := hide b2
    clear b2
    go_wp2_with fail
    go_ret2
    exact ⟨rfl, unhide HB2⟩
  · have hE1 : (E0 != 0) = true := by simpa using h0
    rw [if_neg h0, if_neg h0]
    clear h0
    go_enter Tryz.func21, Tryz.ntmps21
    go_wp2_with fail
    refine (unhide HR).mono ?_
    rintro e w1 ⟨rfl, hw1⟩
    subst hw1
    go_wp2_with fail
    go_ret2
    exact ⟨rfl, Below.refl _ _⟩
theorem cut_kd (T : TB) (i z k : Int) : kdI (cutT T i z) k = kdI T k := by
  unfold cutT
  cases hx : ndAt T i with
  | none => rfl
  | some x =>
    dsimp only
    split
    · rfl
    · unfold kdI
      rw [set_nd hx]
      split
      · rename_i e; rw [e, hx]; rfl
      · rfl
theorem cut_len (T : TB) (i z : Int) : (cutT T i z).length = T.length := by
  unfold cutT
  split
  · rfl
  · split
    · rfl
    · simp
def ncutE (s : NS) (d z : Int) : Int := if filE s d = 0 then cutE s.T d z else filE s d
def ncutS (s : NS) (d z : Int) : NS := if filE s d = 0 then { s with T := cutT s.T d z } else s
set_option maxRecDepth 20000 in
set_option maxHeartbeats 1000000 in
theorem fcut_any {w : World} {f q nb n : Nat} {B : Bas} {Y : Nat → Prop} {s : NS} (H : FX w f q Y s nb n B) (d z : Int) (hb : -9223372036854775808 ≤ d ∧ d ≤ 9223372036854775807) : Calls Tryz.prog 64 #[.pointer (some ⟨f, 0, none⟩), .int .i64 d, .int .i64 z] w fun e w' => e = .returned (.int .i64 (ncutE s d z)) ∧ Hid (FX w' f q Y (ncutS s d z) nb (n + 1) B) := by
  have c0 : w.cell? ⟨f, 0, none⟩ = some (.pointer (some ⟨q, 0, none⟩)) := H.blk.cell 0 rfl
  have HR := hide (refuseBytes_any H d hb)
  obtain ⟨t, X, c1, htab, hX, hturn⟩ := (H.nd.at'.toG H.nd.ok).tbl H.new
  have HT := hide (tcut_any htab d z hb)
  have HTU := hide hturn
  have HH := hide H
  unfold ncutE ncutS
  obtain ⟨E0, hE0⟩ : ∃ E0, E0 = filE s d := ⟨_, rfl⟩
  rw [← hE0] at HR ⊢
  obtain ⟨RE, hRE⟩ : ∃ RE, RE = cutE s.T d z := ⟨_, rfl⟩
  rw [← hRE] at HT ⊢
  clear H htab hX hturn hE0 hRE
  by_cases h0 : E0 = 0
  · subst h0
    rw [if_pos rfl, if_pos rfl]
    go_enter Tryz.func64, Tryz.ntmps64
    go_wp2_with fail
    refine (unhide HR).mono ?_
    rintro e w1 ⟨rfl, hw1⟩
    subst hw1
    go_wp2_with fail
    refine (unhide HT).mono ?_
    rintro e w2 ⟨rfl, k1, k2⟩
    have HG := hide (unhide HTU w2 _ k1 k2)
    clear k1 k2 HTU
    go_wp2_with fail
    go_ret
    exact ⟨rfl, hide (((unhide HH).table (unhide HG).1 (unhide HG).2 (fun d => by rw [cut_kd]) (quiet_ok (unhide HH).nd.ok (quiet_cut _ _ _) (good_cut (unhide HH).nd.ok.gd _ _) (Nat.le_refl _) (cut_len _ _ _) (cut_kd _ _ _))).mono (Nat.le_succ _))⟩
  · have hE1 : (E0 != 0) = true := by simpa using h0
    have HX : Hid (FX w f q Y s nb (n + 1) B) := hide ((unhide HH).mono (Nat.le_succ _))
    rw [if_neg h0, if_neg h0]
    clear h0
    go_enter Tryz.func64, Tryz.ntmps64
    go_wp2_with fail
    refine (unhide HR).mono ?_
    rintro e w1 ⟨rfl, hw1⟩
    subst hw1
    go_wp2_with fail
    go_ret
    exact ⟨rfl, HX⟩
set_option maxRecDepth 20000 in
set_option maxHeartbeats 1000000 in
theorem ffree_any {w : World} {f q nb n : Nat} {B : Bas} {Y : Nat → Prop} {s : NS} (H : FX w f q Y s nb n B) : Calls Tryz.prog 7 #[.pointer (some ⟨f, 0, none⟩)] w fun e w' => e = .returned (.tuple #[.int .i64 (freeT s.T : Int), .int .i64 ((nb - usedT s.T : Nat) : Int)]) ∧ w' = w := by
  have c0 : w.cell? ⟨f, 0, none⟩ = some (.pointer (some ⟨q, 0, none⟩)) := H.blk.cell 0 rfl
  have HE := hide (empty_any H)
  obtain ⟨t, X, c1, htab, hX, hturn⟩ := (H.nd.at'.toG H.nd.ok).tbl H.new
  have HT := hide (tfree_any htab)
  obtain ⟨a, ha⟩ : ∃ a, a = freeT s.T := ⟨_, rfl⟩
  obtain ⟨b, hb⟩ : ∃ b, b = nb - usedT s.T := ⟨_, rfl⟩
  rw [← ha, ← hb] at HT ⊢
  clear H htab hX hturn ha hb
  go_enter Tryz.func7, Tryz.ntmps7
  go_wp2_with fail
  refine (unhide HE).mono ?_
  rintro e w1 ⟨rfl, hw1⟩
  subst hw1
  go_wp2_with fail
  refine (unhide HT).mono ?_
  rintro e w1 ⟨rfl, hw1⟩
  subst hw1
  go_wp2_with fail
  go_ret2
  exact ⟨rfl, rfl⟩

end Go.Proofs.YtemologkibcdoaaGreatDoor
