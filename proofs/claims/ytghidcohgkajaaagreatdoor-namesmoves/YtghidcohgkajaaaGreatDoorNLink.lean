/-
  Directories (stage 13): Link.
-/
import Derived.Test.YtghidcohgkajaaaGreatDoorM22
namespace Go.Proofs.YtghidcohgkajaaaGreatDoor
open Go.RowKit Go.Maps

/-- What Link leaves is as it should be. -/
theorem ok_link {s : NS} {n : Nat} (K : NOk s n) {d i : Int} {t : List UInt8} {x : Nd} (hx : ndAt s.T i = some x) (hd : kdI s.T d = 2) (hdn : 1 ≤ nmI s.T d) (hno : ∀ y ∈ s.L, ¬ (y.dir = d ∧ y.name = t)) (ht : NmOk t) (hk : kdI s.T i ≠ 2) : NOk ⟨tieT s.T i, putL s.L ⟨d, t, i⟩, s.par⟩ (n + 1) := by
  refine ⟨NV.add K.inv hd hdn hno (fun k => (tie_all hx k).1) (fun k _ => (tie_all hx k).2) (fun e => hk (by rw [e]; exact K.inv.root)) (fun e => absurd ((tie_all hx _).2.symm.trans e) hk) (fun _ _ => rfl) (fun e => absurd ((tie_all hx _).2.symm.trans e) hk), good_tie K.gd _, ?_, fun y hy => ?_, ?_, K.par, up_same K.up (fun k => (tie_all hx k).2)⟩
  · show (tieT _ _).length ≤ 1024
    rw [tie_len]
    exact K.max
  · rcases mem_put.1 hy with rfl | hy
    · exact ht
    · exact K.nm y hy
  · show (putL _ _).length ≤ _
    rw [put_len']
    exact Nat.succ_le_succ K.len
theorem walk_rng {s : NS} {n : Nat} (K : NOk s n) (d : Int) (p : List UInt8) (fl : Bool) : 0 ≤ (walkN s d p fl).1 ∧ (walkN s d p fl).1 ≤ 1024 := by
  unfold walkN
  split
  · rename_i h
    have hr := isD_rng K h
    exact (goes_bnd K 8 p fl 8 hr.1 hr.2).1
  · exact ⟨by decide, by decide⟩
set_option maxRecDepth 20000 in
set_option maxHeartbeats 4000000 in
theorem link_any (f q : Nat) (Y : Nat → Prop) (nb : Nat) (B : Bas) : LkAt f q Y nb B := by
  intro w s n d p p2 H hnn hb hp hp2
  have HW := hide (walk_any H d p false hb hp)
  have hwr := walk_rng H.nd.ok d p false
  have HTH : Hid ((walkN s d p false).2 = 0 → ∃ x, ndAt s.T (walkN s d p false).1 = some x) := hide (fun h => walk_there H.nd.ok.inv H.nd.ok.up h)
  have HWD : Hid ((walkN s d p false).2 = 0 → isD s d = true) := hide (fun h => by
    unfold walkN at h
    cases hd : isD s d with
    | true => rfl
    | false => rw [hd] at h; cases h)
  obtain ⟨I, hI⟩ : ∃ I, I = (walkN s d p false).1 := ⟨_, rfl⟩
  obtain ⟨E0, hE0⟩ : ∃ E0, E0 = (walkN s d p false).2 := ⟨_, rfl⟩
  rw [← hI, ← hE0] at HW HTH
  rw [← hE0] at HWD
  rw [← hI] at hwr
  have HH := hide H
  clear H hI hE0
  go_enter Tryz.func42, Tryz.ntmps42
  go_wp2_with fail
  refine (unhide HW).mono ?_
  rintro e w2 ⟨rfl, b2⟩
  have HB2 := hide b2
  have HR2 := hide ((unhide HH).below b2)
  clear b2 HW
  by_cases hE : E0 = 0
  · subst hE
    have hdd := unhide HWD rfl
    have HTX := hide (unhide HTH rfl)
    have hr := isD_rng (unhide HH).nd.ok hdd
    have HID := hide (isDir_any (unhide HR2).nd I (by omega))
    have HNP := hide (newPlace_any (unhide HR2).nd d p2 hr.1 hr.2 hp2 hdd)
    have c0 : w2.cell? ⟨f, 0, none⟩ = some (.pointer (some ⟨q, 0, none⟩)) := (unhide HR2).blk.cell 0 rfl
    clear hdd hr HTH HWD
    cases hdi : isD s I with
    | true =>
      rw [hdi] at HID
      have HX : Hid (∃ s', FX w2 f q Y s' nb (n + 1) B ∧ s'.T.length = s.T.length) := hide ⟨s, (unhide HR2).mono (Nat.le_succ _), rfl⟩
      clear hdi HNP
      go_wp2_with fail
      refine (unhide HID).mono ?_
      rintro e w4 ⟨rfl, hw4⟩
      have hw5 := hw4.symm
      subst hw5
      clear hw4
      go_wp2_with fail
      go_ret
      exact ⟨_, rfl, HX⟩
    | false =>
      rw [hdi] at HID
      have HKI : Hid (kdI s.T I ≠ 2) := hide (of_decide_eq_false hdi)
      clear hdi
      go_wp2_with fail
      refine (unhide HID).mono ?_
      rintro e w4 ⟨rfl, hw4⟩
      have hw5 := hw4.symm
      subst hw5
      clear hw4
      go_wp2_with fail
      refine (unhide HNP).mono ?_
      rintro e w3 ⟨N, t, E, rfl, HP⟩
      have hbw3 : Below w3.heap.size w3 (w3.alloc (.cells #[.int .i64 N, .string (BA t)] 91)) := (Below.refl _ w3).alloc (Nat.le_refl _) _
      have HB23 := hide ((unhide HP).2.trans (hbw3.mono (unhide HP).2.size))
      have HB3 := hide ((unhide HB2).trans ((unhide HB23).mono (unhide HB2).size))
      have HA3 := hide (Blk.new w3 91 #[.int .i64 N, .string (BA t)])
      have HR3 := hide ((unhide HH).below (unhide HB3))
      have HPI := hide (unhide HP).1
      have HNW : Hid (w.heap.size ≤ w3.heap.size) := hide (Nat.le_trans (unhide HB2).size (unhide HP).2.size)
      have hN0 := (unhide HPI).2.2.2.1
      have hN1 := (unhide HPI).2.2.2.2
      have htl := (unhide HPI).2.2.1
      clear hbw3 HB23 HP HNP HID c0
      by_cases hE : E = 0
      · subst hE
        have HRO : Hid ((roomN s d p2).2.2 = 0) := hide (unhide HPI).1.symm
        have HR1 := hide ((unhide HPI).2.1 (unhide HRO))
        have HRM : Hid (kdI s.T N = 2 ∧ 1 ≤ nmI s.T N ∧ ∀ y ∈ s.L, ¬ (y.dir = N ∧ y.name = t)) := hide (by
          have := room_all (unhide HH).nd.ok.inv (unhide HRO)
          rw [← (unhide HR1).1, ← (unhide HR1).2] at this
          exact this)
        have HNM : Hid (NmOk t) := hide (by
          obtain ⟨e1, e2⟩ := room_ok (unhide HRO)
          rw [(unhide HR1).2, e1]
          exact place_nm e2)
        obtain ⟨x, hx⟩ := unhide HTX
        have HOK := hide (ok_link (unhide HH).nd.ok hx (unhide HRM).1 (unhide HRM).2.1 (unhide HRM).2.2 (unhide HNM) (unhide HKI))
        have HKK : Hid (∀ k, kdI s.T k = 2 ↔ kdI (tieT s.T I) k = 2) := hide (fun k => by rw [(tie_all hx k).2])
        clear hx
        go_upto_region 4 with fail
        obtain ⟨w4, hW3⟩ : ∃ w4, w4 = (w3.alloc (.cells #[.int .i64 N, .string (BA t)] 91)) := ⟨_, rfl⟩
        rw [← hW3] at HB3 HA3 HR3 ⊢
        obtain ⟨ab, hab⟩ : ∃ ab, ab = w3.heap.size := ⟨_, rfl⟩
        rw [← hab] at HA3 HNW ⊢
        have hab2 : ab < w4.heap.size := (unhide HA3).lt
        obtain ⟨Z, hZ⟩ : ∃ Z : Nat → Prop, Z = fun k => Upto w Y k ∨ w4.heap.size ≤ k := ⟨_, rfl⟩
        have HZY : Hid (∀ k, Z k → Y k) := hide (by
          rw [hZ]
          rintro k (h | h)
          · exact h.1
          · exact (unhide HR3).new k h)
        have HFZ : Hid (FX w4 f q Z s nb n B) := hide (by rw [hZ]; exact (unhide HH).renew (unhide HB3))
        have HUT : Hid (∀ W, FX W f q Z s nb n B ∧ Below w4.heap.size w4 W → Calls Tryz.prog 95 #[.pointer (some ⟨q, 0, none⟩), .agg #[.int .i64 N, .string (BA t)], .int .i64 I] W fun e w' => e = .returned (.tuple #[]) ∧ (w'.cell? ⟨f, 0, none⟩ = some (.pointer (some ⟨q, 0, none⟩)) ∧ w'.cell? ⟨ab, 0, none⟩ = some (.int .i64 N) ∧ w'.cell? ⟨ab, 1, none⟩ = some (.string (BA t))) ∧ Hid (∃ s', FX w' f q Y s' nb (n + 1) B ∧ s'.T.length = s.T.length)) := hide (fun W h => (tie_any (h.1.nd.at'.toG (unhide HH).nd.ok) h.1.new ⟨N, t, I⟩ (unhide HRM).1 (unhide HH).nd.ok.inv.srt (unhide HRM).2.2 (by show t.length ≤ 1000000; omega) (by have := (unhide HH).nd.ok.len; omega) (by show _ ≤ I ∧ I ≤ _; omega) (fun k y hy => Nat.le_trans ((unhide HH).nd.ok.gd k y hy).2.1 (by omega))).mono fun _ w' ⟨e1, e2⟩ => by
          obtain ⟨g1, g2⟩ := unhide e2
          have hZab : ¬ Z ab := by
            rw [hZ]
            rintro (h | h)
            · have := h.2; have := unhide HNW; omega
            · omega
          have ha := ((unhide HA3).below h.2 hab2).grownS g2 hZab
          have hfx := h.1.turn (GAt.toN g1 (unhide HKK)) g2 (n' := n + 1) (unhide HOK)
          refine ⟨e1, ⟨hfx.blk.cell 0 rfl, ha.cell 0 rfl, ha.cell 1 rfl⟩, hide ⟨_, ⟨⟨hfx.nd.at'.mono (fun k _ h => unhide HZY k h), hfx.nd.ok, hfx.nd.env, (unhide HH).nd.yb⟩, hfx.blk, (unhide HH).no, fun k hk => unhide HZY k (hfx.new k hk)⟩, tie_len _ _⟩⟩)
        have c0 : w4.cell? ⟨f, 0, none⟩ = some (.pointer (some ⟨q, 0, none⟩)) := (unhide HR3).blk.cell 0 rfl
        have g0 : w4.cell? ⟨ab, 0, none⟩ = some (.int .i64 N) := (unhide HA3).cell 0 rfl
        have g1 : w4.cell? ⟨ab, 1, none⟩ = some (.string (BA t)) := (unhide HA3).cell 1 rfl
        have H0 := hide (show FX w4 f q Z s nb n B ∧ Below w4.heap.size w4 w4 from ⟨unhide HFZ, Below.refl _ _⟩)
        have HD : Hid (∀ W k, FX W f q Z s nb n B ∧ Below w4.heap.size w4 W → FX (W.drewN k) f q Z s nb n B ∧ Below w4.heap.size w4 (W.drewN k)) := hide (fun W k h => ⟨h.1.below (below_drew W k), h.2.trans ((below_drew W k).mono h.2.size)⟩)
        clear hW3 hab hZ HA3 hab2
        go_wp2_with fail
        go_region_held3 (fun w' => w'.cell? ⟨f, 0, none⟩ = some (.pointer (some ⟨q, 0, none⟩)) ∧ w'.cell? ⟨ab, 0, none⟩ = some (.int .i64 N) ∧ w'.cell? ⟨ab, 1, none⟩ = some (.string (BA t))) (go_keep) ((go_at_call 95; refine (unhide HUT _ (by first | exact unhide H0 | exact unhide HD _ _ (unhide H0))).mono ?_; rintro e wa ⟨rfl, a2, HA⟩))
        clear a2 g0 g1 c0 HUT
        go_wp2_with fail
        go_ret
        exact ⟨_, rfl, HA⟩
      · have hE1 : (E != 0) = true := by simpa using hE
        have HX : Hid (∃ s', FX (w3.alloc (.cells #[.int .i64 N, .string (BA t)] 91)) f q Y s' nb (n + 1) B ∧ s'.T.length = s.T.length) := hide ⟨s, (unhide HR3).mono (Nat.le_succ _), rfl⟩
        clear hE
        go_wp2_with fail
        go_ret
        exact ⟨_, rfl, HX⟩
  · have hE1 : (E0 != 0) = true := by simpa using hE
    have HX : Hid (∃ s', FX w2 f q Y s' nb (n + 1) B ∧ s'.T.length = s.T.length) := hide ⟨s, (unhide HR2).mono (Nat.le_succ _), rfl⟩
    clear hE
    go_wp2_with fail
    go_ret
    exact ⟨_, rfl, HX⟩

end Go.Proofs.YtghidcohgkajaaaGreatDoor
