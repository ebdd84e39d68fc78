/-
  Directories (stage 13): Rename.
  Directories (stage 13): New.
  clear; Cut.
-/
import Derived.Test.YtnpeiibecihleaaGreatDoorM19
import Derived.Test.YtnpeiibecihleaaGreatDoorM07
import Derived.Deep.RegionHeld3
/- Directories (stage 13): Rename. -/
namespace Go.Proofs.YtnpeiibecihleaaGreatDoor
open Go.RowKit Go.Maps

theorem lk_rn {w W : World} {f q : Nat} {Y Z : Nat → Prop} {s : NS} {nb n : Nat} {B : Bas} {ob ab : Nat} {N1 : Int} {t1 : List UInt8} {N2 : Int} {t2 : List UInt8} (H : Rn w W f q Y Z s nb n B ob ab N1 t1 N2 t2) (N : Int) (t : List UInt8) (hN : 0 ≤ N ∧ N ≤ 1024) (ht : t.length ≤ 100000) : Calls Tryz.prog 91 #[.pointer (some ⟨q, 0, none⟩), .agg #[.int .i64 N, .string (BA t)]] W fun e w' => e = .returned (.tuple #[.int .i64 (findN s N t), .bool (isN s N t)]) ∧ Cs w' f q ob ab N1 t1 N2 t2 ∧ Hid (Rn w w' f q Y Z s nb n B ob ab N1 t1 N2 t2) :=
  (lookup_any H.fx.nd N t (by omega) (by omega)).mono fun _ _ ⟨e1, e2⟩ => ⟨e1, (H.below e2).cs, hide (H.below e2)⟩
theorem ren_err {s : NS} {A B : Int × List UInt8 × Int} {i k : Int} (h : renE s A B i k ≠ 0) : renS s A B i k = s := by
  unfold renS
  rw [if_neg (fun e => h e.1)]
set_option maxRecDepth 40000 in
set_option maxHeartbeats 8000000 in
theorem rename_any {w : World} {f q nb n : Nat} {B : Bas} {Y : Nat → Prop} {s : NS} (H : FX w f q Y s nb n B) (hnn : n ≤ 10000) (d : Int) (p p2 : List UInt8) (hb : -9223372036854775808 ≤ d ∧ d ≤ 9223372036854775807) (hp : p.length ≤ 100000) (hp2 : p2.length ≤ 100000) : Calls Tryz.prog 48 #[.pointer (some ⟨f, 0, none⟩), .int .i64 d, .string (BA p), .string (BA p2)] w fun e w' => e = .returned (.int .i64 (renE s (placeN s d p) (placeN s d p2) (findN s (placeN s d p).1 (placeN s d p).2.1) (findN s (placeN s d p2).1 (placeN s d p2).2.1))) ∧ Hid (FX w' f q Y (renS s (placeN s d p) (placeN s d p2) (findN s (placeN s d p).1 (placeN s d p).2.1) (findN s (placeN s d p2).1 (placeN s d p2).2.1)) nb (n + 1) B) := by
  have c0 : w.cell? ⟨f, 0, none⟩ = some (.pointer (some ⟨q, 0, none⟩)) := H.blk.cell 0 rfl
  have HR := hide (refuse_any H d hb)
  have HOK : Hid (NOk (renS s (placeN s d p) (placeN s d p2) (findN s (placeN s d p).1 (placeN s d p).2.1) (findN s (placeN s d p2).1 (placeN s d p2).2.1)) (n + 1)) := hide ((ok_ren H.nd.ok).mono (Nat.le_succ _))
  obtain ⟨A, hA⟩ : ∃ A, A = placeN s d p := ⟨_, rfl⟩
  obtain ⟨C, hC⟩ : ∃ C, C = placeN s d p2 := ⟨_, rfl⟩
  rw [← hA, ← hC] at HOK ⊢
  have HPA := hide hA
  have HPC := hide hC
  obtain ⟨RE, hRE⟩ : ∃ RE, RE = renE s A C (findN s A.1 A.2.1) (findN s C.1 C.2.1) := ⟨_, rfl⟩
  obtain ⟨RS, hRS⟩ : ∃ RS, RS = renS s A C (findN s A.1 A.2.1) (findN s C.1 C.2.1) := ⟨_, rfl⟩
  have HRE := hide hRE
  have HRS := hide hRS
  rw [← hRS] at HOK
  rw [← hRE, ← hRS]
  have HER : Hid (RE ≠ 0 → RS = s) := hide (fun h => by rw [hRS]; exact ren_err (by rw [← hRE]; exact h))
  unfold refE at HR
  cases hd : isD s d with
  | false =>
    have hre : RE = 25 := by
      rw [hRE]
      unfold renE
      rw [if_pos (by rw [hA, place_no hd]; decide), hA, place_no hd]
    rw [hd] at HR
    simp only [Bool.false_eq_true, if_false] at HR
    have HX : Hid (FX w f q Y RS nb (n + 1) B) := hide (by rw [unhide HER (by rw [hre]; decide)]; exact H.mono (Nat.le_succ _))
    rw [hre]
    clear H hd hA hC hRE hRS hre
    go_enter Tryz.func48, Tryz.ntmps48
    go_wp2_with fail
    refine (unhide HR).mono ?_
    rintro e w1 ⟨rfl, hw1⟩
    subst hw1
    go_wp2_with fail
    go_ret
    exact ⟨rfl, HX⟩
  | true =>
    have hr := isD_rng H.nd.ok hd
    have HP1 := hide (placeOf_any H.nd d p hr.1 hr.2 hp hd)
    rw [hd] at HR
    simp only [if_true] at HR
    rw [← hA] at HP1
    have HH := hide H
    have HDR := hide hr
    have HDD := hide hd
    clear H hd hA hC hRE hRS hr
    go_enter Tryz.func48, Tryz.ntmps48
    go_wp2_with fail
    refine (unhide HR).mono ?_
    rintro e w1 ⟨rfl, hw1⟩
    have hw2 := hw1.symm
    subst hw2
    clear hw1
    go_wp2_with fail
    refine (unhide HP1).mono ?_
    rintro e w2 ⟨N1, t1, E1, rfl, HPI1⟩
    have HI1 := hide (unhide HPI1).1
    have hb3 : Below w2.heap.size w2 (w2.alloc (.cells #[.int .i64 N1, .string (BA t1)] 109)) := (Below.refl _ w2).alloc (Nat.le_refl _) _
    have HB3 := hide ((unhide HPI1).2.trans (hb3.mono (unhide HPI1).2.size))
    have HO3 := hide (Blk.new w2 109 #[.int .i64 N1, .string (BA t1)])
    have HOB : Hid (w.heap.size ≤ w2.heap.size) := hide (unhide HPI1).2.size
    clear hb3 HPI1 HP1 HR
    by_cases hE1 : E1 = 0
    · subst hE1
      have HF3 := hide ((unhide HH).below (unhide HB3))
      have HP2 := hide (placeOf_any (unhide HF3).nd d p2 (unhide HDR).1 (unhide HDR).2 hp2 (unhide HDD))
      rw [← unhide HPC] at HP2
      clear c0
      have c0 : (w2.alloc (.cells #[.int .i64 N1, .string (BA t1)] 109)).cell? ⟨f, 0, none⟩ = some (.pointer (some ⟨q, 0, none⟩)) := (unhide HF3).blk.cell 0 rfl
      go_wp2_with fail
      refine (unhide HP2).mono ?_
      rintro e w4 ⟨N2, t2, E2, rfl, HPI2⟩
      have HI2 := hide (unhide HPI2).1
      have hb5 : Below w4.heap.size w4 (w4.alloc (.cells #[.int .i64 N2, .string (BA t2)] 109)) := (Below.refl _ w4).alloc (Nat.le_refl _) _
      have HB35 := hide ((unhide HPI2).2.trans (hb5.mono (unhide HPI2).2.size))
      have HB5 := hide ((unhide HB3).trans ((unhide HB35).mono (unhide HB3).size))
      have HO5 := hide ((unhide HO3).below (unhide HB35) (unhide HO3).lt)
      have HA5 := hide (Blk.new w4 109 #[.int .i64 N2, .string (BA t2)])
      have HAB : Hid (w.heap.size ≤ w4.heap.size) := hide (Nat.le_trans (unhide HB3).size (unhide HPI2).2.size)
      obtain ⟨ob, hob⟩ : ∃ ob, ob = w2.heap.size := ⟨_, rfl⟩
      rw [← hob] at HO5 HOB ⊢
      clear hb5 HPI2 HP2 c0 HO3 HB35 HF3 hob
      by_cases hE2 : E2 = 0
      · subst hE2
        go_upto_region 10 with fail
        obtain ⟨W5, hW5⟩ : ∃ W5, W5 = w4.alloc (.cells #[.int .i64 N2, .string (BA t2)] 109) := ⟨_, rfl⟩
        rw [← hW5] at HB5 HO5 HA5 ⊢
        obtain ⟨ab, hab⟩ : ∃ ab, ab = w4.heap.size := ⟨_, rfl⟩
        rw [← hab] at HA5 HAB ⊢
        obtain ⟨Z, hZ⟩ : ∃ Z : Nat → Prop, Z = fun k => Upto w Y k ∨ W5.heap.size ≤ k := ⟨_, rfl⟩
        have HRN : Hid (Rn w W5 f q Y Z s nb n B ob ab N1 t1 N2 t2) := hide ⟨by rw [hZ]; exact (unhide HH).renew (unhide HB5), unhide HO5, unhide HA5, by
            rw [hZ]
            rintro (h | h)
            · have := h.2; have := unhide HOB; omega
            · have := (unhide HO5).lt; omega, by
            rw [hZ]
            rintro (h | h)
            · have := h.2; have := unhide HAB; omega
            · have := (unhide HA5).lt; omega, by
            rw [hZ]
            rintro k (h | h)
            · exact h.1
            · exact (unhide HH).new k (Nat.le_trans (unhide HB5).size h), grownS_of_below (unhide HB5)⟩
        have HE1 := hide (unhide HI1).1.symm
        have HE2 := hide (unhide HI2).1.symm
        have HV1 := hide ((unhide HI1).2.1 (unhide HE1))
        have HV2 := hide ((unhide HI2).2.1 (unhide HE2))
        have ht1 := (unhide HI1).2.2.1
        have ht2 := (unhide HI2).2.2.1
        have hN1 : 0 ≤ N1 ∧ N1 ≤ 1024 := (unhide HI1).2.2.2
        have hN2 : 0 ≤ N2 ∧ N2 ≤ 1024 := (unhide HI2).2.2.2
        clear hW5 hab hZ HB5 HO5 HA5 HI1 HI2 HOB HAB HB3
        have HRD : Hid (∀ W k, Rn w W f q Y Z s nb n B ob ab N1 t1 N2 t2 → Rn w (W.drewN k) f q Y Z s nb n B ob ab N1 t1 N2 t2) := hide (fun W k h => h.below (below_drew W k))
        have HLK1 := hide (fun W (h : Rn w W f q Y Z s nb n B ob ab N1 t1 N2 t2) => lk_rn h N1 t1 hN1 ht1)
        have HLK2 := hide (fun W (h : Rn w W f q Y Z s nb n B ob ab N1 t1 N2 t2) => lk_rn h N2 t2 hN2 ht2)
        have hfb1 := (unhide HH).nd.ok.find N1 t1
        have hfb2 := (unhide HH).nd.ok.find N2 t2
        have HRR : Hid (RE = renE s A C (findN s N1 t1) (findN s N2 t2) ∧ RS = renS s A C (findN s N1 t1) (findN s N2 t2)) := hide ⟨by rw [unhide HRE, ← (unhide HV1).1, ← (unhide HV1).2, ← (unhide HV2).1, ← (unhide HV2).2], by rw [unhide HRS, ← (unhide HV1).1, ← (unhide HV1).2, ← (unhide HV2).1, ← (unhide HV2).2]⟩
        obtain ⟨i, hi⟩ : ∃ i, i = findN s N1 t1 := ⟨_, rfl⟩
        obtain ⟨k, hk⟩ : ∃ k, k = findN s N2 t2 := ⟨_, rfl⟩
        have HFI := hide hi
        have HFK := hide hk
        rw [← hi, ← hk] at HRR
        rw [← hi] at HLK1 hfb1
        rw [← hk] at HLK2 hfb2
        have HGI : Hid (isN s N1 t1 = decide (i ≠ 0)) := hide (by unfold isN; rw [← hi])
        have HGK : Hid (isN s N2 t2 = decide (k ≠ 0)) := hide (by unfold isN; rw [← hk])
        have k0 : W5.cell? ⟨f, 0, none⟩ = some (.pointer (some ⟨q, 0, none⟩)) := (unhide HRN).cs.1
        have k1 : W5.cell? ⟨ob, 0, none⟩ = some (.int .i64 N1) := (unhide HRN).cs.2.1
        have k2 : W5.cell? ⟨ob, 1, none⟩ = some (.string (BA t1)) := (unhide HRN).cs.2.2.1
        have k3 : W5.cell? ⟨ab, 0, none⟩ = some (.int .i64 N2) := (unhide HRN).cs.2.2.2.1
        have k4 : W5.cell? ⟨ab, 1, none⟩ = some (.string (BA t2)) := (unhide HRN).cs.2.2.2.2
        clear hi hk
        rw [unhide HGI] at HLK1
        rw [unhide HGK] at HLK2
        by_cases hi0 : i = 0
        · rw [decide_eq_false (by rw [hi0]; decide)] at HLK1
          have hre : RE = 23 := by
            rw [(unhide HRR).1]
            unfold renE
            rw [if_neg (by rw [unhide HE1]; decide), if_neg (by rw [unhide HE2]; decide), if_pos (.inl hi0)]
          have HXF : Hid (∀ W, Rn w W f q Y Z s nb n B ob ab N1 t1 N2 t2 → FX W f q Y RS nb (n + 1) B) := hide (fun W h => by rw [unhide HER (by rw [hre]; decide)]; exact (unhide HH).widen h.fx.nd.at' h.zy h.gr ((unhide HH).nd.ok.mono (Nat.le_succ _)))
          subst hre
          clear hi0 HRR
          go_wp2_with fail
          go_region_held3 (fun w' => w'.cell? ⟨f, 0, none⟩ = some (.pointer (some ⟨q, 0, none⟩)) ∧ w'.cell? ⟨ob, 0, none⟩ = some (.int .i64 N1) ∧ w'.cell? ⟨ob, 1, none⟩ = some (.string (BA t1)) ∧ w'.cell? ⟨ab, 0, none⟩ = some (.int .i64 N2) ∧ w'.cell? ⟨ab, 1, none⟩ = some (.string (BA t2))) (go_keep) ((go_at_call 91; refine (unhide HLK1 _ (by first | exact unhide HRN | exact unhide HRD _ _ (unhide HRN))).mono ?_; rintro e wa ⟨rfl, ⟨a0, a1, a2, a3, a4⟩, HRA⟩))
          clear k0 k1 k2 k3 k4
          go_wp2_with fail
          go_quiet (fail)
          have HX := hide (unhide HXF _ (unhide HRD _ nq (unhide HRA)))
          go_wp2_with fail
          go_ret
          exact ⟨rfl, HX⟩
        · rw [decide_eq_true hi0] at HLK1
          go_wp2_with fail
          go_region_held3 (fun w' => w'.cell? ⟨f, 0, none⟩ = some (.pointer (some ⟨q, 0, none⟩)) ∧ w'.cell? ⟨ob, 0, none⟩ = some (.int .i64 N1) ∧ w'.cell? ⟨ob, 1, none⟩ = some (.string (BA t1)) ∧ w'.cell? ⟨ab, 0, none⟩ = some (.int .i64 N2) ∧ w'.cell? ⟨ab, 1, none⟩ = some (.string (BA t2))) (go_keep) ((go_at_call 91; refine (unhide HLK1 _ (by first | exact unhide HRN | exact unhide HRD _ _ (unhide HRN))).mono ?_; rintro e wa ⟨rfl, ⟨a0, a1, a2, a3, a4⟩, HRA⟩))
          clear k0 k1 k2 k3 k4
          obtain ⟨tt, dm, M, X, HL, _⟩ := (unhide HRA).fx.nd.at'
          have cq : wa.cell? ⟨q, 0, none⟩ = some (.pointer (some ⟨tt, 0, none⟩)) := HL.nds.cell 0 rfl
          have HLN := hide (fun k => (NdX.bel HL (below_drew wa k)).links N2 (by omega))
          change Hid (∀ k, Calls _ _ _ _ fun e w' => e = .returned (.int .i64 (nmI s.T N2 : Int)) ∧ _) at HLN
          obtain ⟨z, hz⟩ : ∃ z, z = nmI s.T N2 := ⟨_, rfl⟩
          have HZ := hide hz
          rw [← hz] at HLN
          clear HL hz
          by_cases hz0 : z = 0
          · have hre : RE = 23 := by
              rw [(unhide HRR).1]
              unfold renE
              rw [if_neg (by rw [unhide HE1]; decide), if_neg (by rw [unhide HE2]; decide), if_pos (.inr (by rw [← (unhide HV2).1]; show nmI s.T N2 = 0; rw [← unhide HZ]; exact hz0))]
            have HXF : Hid (∀ W, Rn w W f q Y Z s nb n B ob ab N1 t1 N2 t2 → FX W f q Y RS nb (n + 1) B) := hide (fun W h => by rw [unhide HER (by rw [hre]; decide)]; exact (unhide HH).widen h.fx.nd.at' h.zy h.gr ((unhide HH).nd.ok.mono (Nat.le_succ _)))
            subst hre
            subst hz0
            clear hi0 HRR
            go_wp2_with fail
            go_quiet ((go_at_call 92; exact Calls.quiet_of_same (unhide HLN _)))
            have HX := hide (unhide HXF _ (unhide HRD _ nq (unhide HRA)))
            go_wp2_with fail
            go_ret
            exact ⟨rfl, HX⟩
          · have hz1 : (((z : Nat) : Int) == 0) = false := by rw [beq_eq_false_iff_ne]; omega
            have HRI : Hid (RE = if i = k then 0 else if isD s i = true ∧ belP s N2 i = true then 35 else if 0 < k then overE s i k else 0) := hide (by rw [(unhide HRR).1, ren_is (unhide HH).nd.ok i k (unhide HE1) (unhide HE2) hi0 (by rw [← (unhide HV2).1, ← unhide HZ]; exact hz0), ← (unhide HV2).1])
            have HZN : Hid (1 ≤ nmI s.T N2) := hide (by rw [← unhide HZ]; omega)
            have HI0 := hide hi0
            clear hz0 hi0
            go_wp2_with fail
            go_quiet ((go_at_call 92; exact Calls.quiet_of_same (unhide HLN _)))
            obtain ⟨W6, hW6⟩ : ∃ W6, W6 = wa.drewN nq := ⟨_, rfl⟩
            rw [← hW6]
            have HR6 : Hid (Rn w W6 f q Y Z s nb n B ob ab N1 t1 N2 t2) := hide (by rw [hW6]; exact unhide HRD _ _ (unhide HRA))
            clear a0 a1 a2 a3 a4 cq hW6 HLN HRA
            have k0 : W6.cell? ⟨f, 0, none⟩ = some (.pointer (some ⟨q, 0, none⟩)) := (unhide HR6).cs.1
            have k1 : W6.cell? ⟨ob, 0, none⟩ = some (.int .i64 N1) := (unhide HR6).cs.2.1
            have k2 : W6.cell? ⟨ob, 1, none⟩ = some (.string (BA t1)) := (unhide HR6).cs.2.2.1
            have k3 : W6.cell? ⟨ab, 0, none⟩ = some (.int .i64 N2) := (unhide HR6).cs.2.2.2.1
            have k4 : W6.cell? ⟨ab, 1, none⟩ = some (.string (BA t2)) := (unhide HR6).cs.2.2.2.2
            have HK2 : Hid (kdI s.T N2 = 2) := hide (by rw [(unhide HV2).1, unhide HPC]; rw [unhide HPC] at HE2; exact place_dir (unhide HE2))
            by_cases hk0 : k = 0
            · subst hk0
              rw [show decide ((0 : Int) ≠ 0) = false from rfl] at HLK2
              have HRI2 : Hid (RE = if isD s i = true ∧ belP s N2 i = true then 35 else 0) := hide (by rw [unhide HRI, if_neg (unhide HI0)]; rfl)
              go_wp2_with fail
              go_region_held3 (fun w' => w'.cell? ⟨f, 0, none⟩ = some (.pointer (some ⟨q, 0, none⟩)) ∧ w'.cell? ⟨ob, 0, none⟩ = some (.int .i64 N1) ∧ w'.cell? ⟨ob, 1, none⟩ = some (.string (BA t1)) ∧ w'.cell? ⟨ab, 0, none⟩ = some (.int .i64 N2) ∧ w'.cell? ⟨ab, 1, none⟩ = some (.string (BA t2))) (go_keep) ((go_at_call 91; refine (unhide HLK2 _ (by first | exact unhide HR6 | exact (unhide HR6).below (below_drew _ _))).mono ?_; rintro e W8 ⟨rfl, ⟨a0, a1, a2, a3, a4⟩, HR8⟩))
              clear k0 k1 k2 k3 k4
              have ⟨k0, k1, k2, k3, k4⟩ := (unhide HR8).cs
              clear a0 a1 a2 a3 a4 HR6
              have HID := hide (fun j => isDir_any ((unhide HR8).fx.below (below_drew W8 j)).nd i (by omega))
              have HWI := hide (fun j => nwithin_any ((unhide HR8).fx.below (below_drew W8 j)).nd N2 i (unhide HK2) (unhide HZN))
              cases hgd : isD s i with
              | true =>
                have HGD := hide hgd
                rw [hgd] at HID HRI2
                cases hbl : belP s N2 i with
                | true =>
                  rw [hbl] at HWI HRI2
                  have hre : RE = 35 := by rw [unhide HRI2]; simp
                  have HXF : Hid (∀ W, Rn w W f q Y Z s nb n B ob ab N1 t1 N2 t2 → FX W f q Y RS nb (n + 1) B) := hide (fun W h => by rw [unhide HER (by rw [hre]; decide)]; exact (unhide HH).widen h.fx.nd.at' h.zy h.gr ((unhide HH).nd.ok.mono (Nat.le_succ _)))
                  subst hre
                  clear hgd hbl HRR HRI HRI2
                  go_wp2_with fail
                  go_quiet ((first | (go_at_call 63; exact Calls.quiet_of_same (unhide HID _)) | (go_at_call 93; exact Calls.quiet_of_same (unhide HWI _))))
                  have HX := hide (unhide HXF _ (unhide HRD _ nq (unhide HR8)))
                  go_wp2_with fail
                  go_ret
                  exact ⟨rfl, HX⟩
                | false =>
                  rw [hbl] at HWI HRI2
                  simp only [Bool.false_eq_true, and_false, if_false] at HRI2
                  clear hgd hbl
                  go_wp2_with fail
                  go_quiet ((first | (go_at_call 63; exact Calls.quiet_of_same (unhide HID _)) | (go_at_call 93; exact Calls.quiet_of_same (unhide HWI _))))
                  obtain ⟨W9, hW9⟩ : ∃ W9, W9 = W8.drewN nq := ⟨_, rfl⟩
                  rw [← hW9]
                  have HR9 : Hid (Rn w W9 f q Y Z s nb n B ob ab N1 t1 N2 t2) := hide (by rw [hW9]; exact unhide HRD _ _ (unhide HR8))
                  clear hW9 k0 k1 k2 k3 k4 HR8 HID HWI
                  have k0 : W9.cell? ⟨f, 0, none⟩ = some (.pointer (some ⟨q, 0, none⟩)) := (unhide HR9).cs.1
                  have k1 : W9.cell? ⟨ob, 0, none⟩ = some (.int .i64 N1) := (unhide HR9).cs.2.1
                  have k2 : W9.cell? ⟨ob, 1, none⟩ = some (.string (BA t1)) := (unhide HR9).cs.2.2.1
                  have k3 : W9.cell? ⟨ab, 0, none⟩ = some (.int .i64 N2) := (unhide HR9).cs.2.2.2.1
                  have k4 : W9.cell? ⟨ab, 1, none⟩ = some (.string (BA t2)) := (unhide HR9).cs.2.2.2.2
                  have hre : RE = 0 := unhide HRI2
                  subst hre
                  have HQ := hide (renR_free (unhide HH).nd.ok (unhide HFI) (unhide HI0) (unhide HFK).symm (unhide HK2))
                  have HRS1 : Hid (RS = renT s A C i) := hide (by rw [(unhide HRR).2]; unfold renS; rw [if_pos ⟨(unhide HRR).1.symm, fun e => unhide HI0 e⟩, if_neg (by decide)])
                  have HRT := HR9
                  clear HR9
                  have HTI : Hid (∀ W, Gn w W f q Y Z s.T s.L s.par (fun d => kdI s.T d = 2) nb ob ab N1 t1 N2 t2 → Calls Tryz.prog 95 #[.pointer (some ⟨q, 0, none⟩), .agg #[.int .i64 N2, .string (BA t2)], .int .i64 i] W fun e w' => e = .returned (.tuple #[]) ∧ Cs w' f q ob ab N1 t1 N2 t2 ∧ Hid (Gn w w' f q Y Z (tieT s.T i) (putL s.L ⟨N2, t2, i⟩) s.par (fun d => kdI s.T d = 2) nb ob ab N1 t1 N2 t2)) := hide (fun W h => (tie_any h.at' h.new ⟨N2, t2, i⟩ (unhide HQ).d2 (unhide HQ).ok.inv.srt (unhide HQ).no (by show t2.length ≤ 1000000; omega) (by have := (unhide HQ).ok.len; omega) (by show _ ≤ i ∧ i ≤ _; omega) (fun k y hy => Nat.le_trans ((unhide HQ).ok.gd k y hy).2.1 (by omega))).mono fun _ w' ⟨e1, e2⟩ => by have h2 := h.turn (unhide e2).1 (unhide e2).2; exact ⟨e1, h2.cs, hide h2⟩)
                  have HUT : Hid (∀ W, Gn w W f q Y Z (tieT s.T i) (putL s.L ⟨N2, t2, i⟩) s.par (fun d => kdI s.T d = 2) nb ob ab N1 t1 N2 t2 → Calls Tryz.prog 64 #[.pointer (some ⟨q, 0, none⟩), .agg #[.int .i64 N1, .string (BA t1)], .int .i64 i] W fun e w' => e = .returned (.tuple #[]) ∧ Cs w' f q ob ab N1 t1 N2 t2 ∧ Hid (Gn w w' f q Y Z (untT (tieT s.T i) i) (dropL (putL s.L ⟨N2, t2, i⟩) N1 t1) (forgP (untT (tieT s.T i) i) i s.par) (keepD (untT (tieT s.T i) i) i (fun d => kdI s.T d = 2)) nb ob ab N1 t1 N2 t2)) := hide (fun W h => (untie_any h.at' h.new N1 t1 i (fun c hc e => up_or (unhide HQ).ok.up hc e) (unhide HQ).d1 (by omega) (by omega) (fun k y hy => Nat.le_trans ((good_tie (unhide HQ).ok.gd i) k y hy).2.1 (by omega))).mono fun _ w' ⟨e1, e2⟩ => by have h2 := h.turn (unhide e2).1 (unhide e2).2; exact ⟨e1, h2.cs, hide h2⟩)
                  have HRM : Hid (∀ W, (kdI s.T i ≠ 2 → GAt W q Z (untT (tieT s.T i) i) (dropL (putL s.L ⟨N2, t2, i⟩) N1 t1) (forgP (untT (tieT s.T i) i) i s.par) (keepD (untT (tieT s.T i) i) i (fun d => kdI s.T d = 2)) nb → NdAt W q Z RS nb) ∧ (kdI s.T i = 2 → GAt W q Z (untT (tieT s.T i) i) (dropL (putL s.L ⟨N2, t2, i⟩) N1 t1) (parU (forgP (untT (tieT s.T i) i) i s.par) i N2) (keepD (untT (tieT s.T i) i) i (fun d => kdI s.T d = 2)) nb → NdAt W q Z RS nb)) := hide (fun W => by
                    rw [unhide HRS1]
                    have h := ren_mem (w' := W) (q := q) (nb := nb) (Y := Z) (s1 := s) (A := A) (B := C) (i := i) (unhide HQ).nm (unhide HQ).ok.up (unhide HI0) (unhide HQ).ok.inv.srt (by rw [← (unhide HV2).1, ← (unhide HV2).2]; exact (unhide HQ).no) (by rw [← (unhide HV2).1, ← (unhide HV2).2, ← (unhide HV1).1, ← (unhide HV1).2]; exact (unhide HQ).ne)
                    rw [← (unhide HV2).1, ← (unhide HV2).2, ← (unhide HV1).1, ← (unhide HV1).2] at h
                    exact h)
                  have HGT := hide (unhide HRT).toG
                  clear HRT
                  go_wp2_with fail
                  go_region_held3 (fun w' => w'.cell? ⟨f, 0, none⟩ = some (.pointer (some ⟨q, 0, none⟩)) ∧ w'.cell? ⟨ob, 0, none⟩ = some (.int .i64 N1) ∧ w'.cell? ⟨ob, 1, none⟩ = some (.string (BA t1)) ∧ w'.cell? ⟨ab, 0, none⟩ = some (.int .i64 N2) ∧ w'.cell? ⟨ab, 1, none⟩ = some (.string (BA t2))) (go_keep) ((go_at_call 95; refine (unhide HTI _ (by first | exact unhide HGT | exact (unhide HGT).below (below_drew _ _))).mono ?_; rintro e wt ⟨rfl, ⟨a0, a1, a2, a3, a4⟩, HG1⟩))
                  clear k0 k1 k2 k3 k4
                  have ⟨k0, k1, k2, k3, k4⟩ := (unhide HG1).cs
                  clear a0 a1 a2 a3 a4 HTI HGT
                  go_wp2_with fail
                  go_region_held3 (fun w' => w'.cell? ⟨f, 0, none⟩ = some (.pointer (some ⟨q, 0, none⟩)) ∧ w'.cell? ⟨ob, 0, none⟩ = some (.int .i64 N1) ∧ w'.cell? ⟨ob, 1, none⟩ = some (.string (BA t1)) ∧ w'.cell? ⟨ab, 0, none⟩ = some (.int .i64 N2) ∧ w'.cell? ⟨ab, 1, none⟩ = some (.string (BA t2))) (go_keep) ((go_at_call 64; refine (unhide HUT _ (by first | exact unhide HG1 | exact (unhide HG1).below (below_drew _ _))).mono ?_; rintro e wu ⟨rfl, ⟨a0, a1, a2, a3, a4⟩, HG2⟩))
                  clear k0 k1 k2 k3 k4 HUT HG1
                  have HID2 := hide (gisDir_any (unhide HG2).at' i (by omega))
                  have HKD2 : Hid (kdI s.T i = 2) := hide (by rw [(unhide HQ).kd]; exact of_decide_eq_true (unhide HGD))
                  rw [show decide (kdI (untT (tieT s.T i) i) i = 2) = true by rw [tie_unt (unhide HQ).nm, unhide HKD2]; rfl] at HID2
                  go_wp2_with fail
                  refine (unhide HID2).mono ?_
                  rintro e wv ⟨rfl, hwv⟩
                  have hwv2 := hwv.symm
                  subst hwv2
                  clear hwv HID2
                  have HMV : Hid (∀ W, Gn w W f q Y Z (untT (tieT s.T i) i) (dropL (putL s.L ⟨N2, t2, i⟩) N1 t1) (forgP (untT (tieT s.T i) i) i s.par) (keepD (untT (tieT s.T i) i) i (fun d => kdI s.T d = 2)) nb ob ab N1 t1 N2 t2 → Calls Tryz.prog 96 #[.pointer (some ⟨q, 0, none⟩), .int .i64 i, .int .i64 N2] W fun e w' => e = .returned (.tuple #[]) ∧ Cs w' f q ob ab N1 t1 N2 t2 ∧ Hid (Gn w w' f q Y Z (untT (tieT s.T i) i) (dropL (putL s.L ⟨N2, t2, i⟩) N1 t1) (parU (forgP (untT (tieT s.T i) i) i s.par) i N2) (keepD (untT (tieT s.T i) i) i (fun d => kdI s.T d = 2)) nb ob ab N1 t1 N2 t2)) := hide (fun W h => (move_any h.at' i N2 ⟨unhide HKD2, fun h0 => absurd (by rw [tie_unt (unhide HQ).nm]; exact unhide HKD2) h0⟩).mono fun _ w' ⟨e1, e2⟩ => by have h2 := h.turn (unhide e2).1 (unhide e2).2; exact ⟨e1, h2.cs, hide h2⟩)
                  go_wp2_with fail
                  go_region_held3 (fun w' => w'.cell? ⟨f, 0, none⟩ = some (.pointer (some ⟨q, 0, none⟩)) ∧ w'.cell? ⟨ob, 0, none⟩ = some (.int .i64 N1) ∧ w'.cell? ⟨ob, 1, none⟩ = some (.string (BA t1)) ∧ w'.cell? ⟨ab, 0, none⟩ = some (.int .i64 N2) ∧ w'.cell? ⟨ab, 1, none⟩ = some (.string (BA t2))) (go_keep) ((go_at_call 96; refine (unhide HMV _ (by first | exact unhide HG2 | exact (unhide HG2).below (below_drew _ _))).mono ?_; rintro e wm ⟨rfl, ⟨b0, b1, b2, b3, b4⟩, HG3⟩))
                  have HX : Hid (FX wm f q Y RS nb (n + 1) B) := hide ((unhide HH).widen ((unhide HRM wm).2 (unhide HKD2) (unhide HG3).at') (unhide HG3).zy (unhide HG3).gr (unhide HOK))
                  clear a0 a1 a2 a3 a4 b0 b1 b2 b3 b4 HMV HG3 HG2
                  go_wp2_with fail
                  go_ret
                  exact ⟨rfl, HX⟩
              | false =>
                have HGD := hide hgd
                rw [hgd] at HID HRI2
                simp only [Bool.false_eq_true, false_and, if_false] at HRI2
                clear hgd
                go_wp2_with fail
                go_quiet ((first | (go_at_call 63; exact Calls.quiet_of_same (unhide HID _)) | (go_at_call 93; exact Calls.quiet_of_same (unhide HWI _))))
                obtain ⟨W9, hW9⟩ : ∃ W9, W9 = W8.drewN nq := ⟨_, rfl⟩
                rw [← hW9]
                have HR9 : Hid (Rn w W9 f q Y Z s nb n B ob ab N1 t1 N2 t2) := hide (by rw [hW9]; exact unhide HRD _ _ (unhide HR8))
                clear hW9 k0 k1 k2 k3 k4 HR8 HID HWI
                have k0 : W9.cell? ⟨f, 0, none⟩ = some (.pointer (some ⟨q, 0, none⟩)) := (unhide HR9).cs.1
                have k1 : W9.cell? ⟨ob, 0, none⟩ = some (.int .i64 N1) := (unhide HR9).cs.2.1
                have k2 : W9.cell? ⟨ob, 1, none⟩ = some (.string (BA t1)) := (unhide HR9).cs.2.2.1
                have k3 : W9.cell? ⟨ab, 0, none⟩ = some (.int .i64 N2) := (unhide HR9).cs.2.2.2.1
                have k4 : W9.cell? ⟨ab, 1, none⟩ = some (.string (BA t2)) := (unhide HR9).cs.2.2.2.2
                have hre : RE = 0 := unhide HRI2
                subst hre
                have HQ := hide (renR_free (unhide HH).nd.ok (unhide HFI) (unhide HI0) (unhide HFK).symm (unhide HK2))
                have HRS1 : Hid (RS = renT s A C i) := hide (by rw [(unhide HRR).2]; unfold renS; rw [if_pos ⟨(unhide HRR).1.symm, fun e => unhide HI0 e⟩, if_neg (by decide)])
                have HRT := HR9
                clear HR9
                have HTI : Hid (∀ W, Gn w W f q Y Z s.T s.L s.par (fun d => kdI s.T d = 2) nb ob ab N1 t1 N2 t2 → Calls Tryz.prog 95 #[.pointer (some ⟨q, 0, none⟩), .agg #[.int .i64 N2, .string (BA t2)], .int .i64 i] W fun e w' => e = .returned (.tuple #[]) ∧ Cs w' f q ob ab N1 t1 N2 t2 ∧ Hid (Gn w w' f q Y Z (tieT s.T i) (putL s.L ⟨N2, t2, i⟩) s.par (fun d => kdI s.T d = 2) nb ob ab N1 t1 N2 t2)) := hide (fun W h => (tie_any h.at' h.new ⟨N2, t2, i⟩ (unhide HQ).d2 (unhide HQ).ok.inv.srt (unhide HQ).no (by show t2.length ≤ 1000000; omega) (by have := (unhide HQ).ok.len; omega) (by show _ ≤ i ∧ i ≤ _; omega) (fun k y hy => Nat.le_trans ((unhide HQ).ok.gd k y hy).2.1 (by omega))).mono fun _ w' ⟨e1, e2⟩ => by have h2 := h.turn (unhide e2).1 (unhide e2).2; exact ⟨e1, h2.cs, hide h2⟩)
                have HUT : Hid (∀ W, Gn w W f q Y Z (tieT s.T i) (putL s.L ⟨N2, t2, i⟩) s.par (fun d => kdI s.T d = 2) nb ob ab N1 t1 N2 t2 → Calls Tryz.prog 64 #[.pointer (some ⟨q, 0, none⟩), .agg #[.int .i64 N1, .string (BA t1)], .int .i64 i] W fun e w' => e = .returned (.tuple #[]) ∧ Cs w' f q ob ab N1 t1 N2 t2 ∧ Hid (Gn w w' f q Y Z (untT (tieT s.T i) i) (dropL (putL s.L ⟨N2, t2, i⟩) N1 t1) (forgP (untT (tieT s.T i) i) i s.par) (keepD (untT (tieT s.T i) i) i (fun d => kdI s.T d = 2)) nb ob ab N1 t1 N2 t2)) := hide (fun W h => (untie_any h.at' h.new N1 t1 i (fun c hc e => up_or (unhide HQ).ok.up hc e) (unhide HQ).d1 (by omega) (by omega) (fun k y hy => Nat.le_trans ((good_tie (unhide HQ).ok.gd i) k y hy).2.1 (by omega))).mono fun _ w' ⟨e1, e2⟩ => by have h2 := h.turn (unhide e2).1 (unhide e2).2; exact ⟨e1, h2.cs, hide h2⟩)
                have HRM : Hid (∀ W, (kdI s.T i ≠ 2 → GAt W q Z (untT (tieT s.T i) i) (dropL (putL s.L ⟨N2, t2, i⟩) N1 t1) (forgP (untT (tieT s.T i) i) i s.par) (keepD (untT (tieT s.T i) i) i (fun d => kdI s.T d = 2)) nb → NdAt W q Z RS nb) ∧ (kdI s.T i = 2 → GAt W q Z (untT (tieT s.T i) i) (dropL (putL s.L ⟨N2, t2, i⟩) N1 t1) (parU (forgP (untT (tieT s.T i) i) i s.par) i N2) (keepD (untT (tieT s.T i) i) i (fun d => kdI s.T d = 2)) nb → NdAt W q Z RS nb)) := hide (fun W => by
                  rw [unhide HRS1]
                  have h := ren_mem (w' := W) (q := q) (nb := nb) (Y := Z) (s1 := s) (A := A) (B := C) (i := i) (unhide HQ).nm (unhide HQ).ok.up (unhide HI0) (unhide HQ).ok.inv.srt (by rw [← (unhide HV2).1, ← (unhide HV2).2]; exact (unhide HQ).no) (by rw [← (unhide HV2).1, ← (unhide HV2).2, ← (unhide HV1).1, ← (unhide HV1).2]; exact (unhide HQ).ne)
                  rw [← (unhide HV2).1, ← (unhide HV2).2, ← (unhide HV1).1, ← (unhide HV1).2] at h
                  exact h)
                have HGT := hide (unhide HRT).toG
                clear HRT
                go_wp2_with fail
                go_region_held3 (fun w' => w'.cell? ⟨f, 0, none⟩ = some (.pointer (some ⟨q, 0, none⟩)) ∧ w'.cell? ⟨ob, 0, none⟩ = some (.int .i64 N1) ∧ w'.cell? ⟨ob, 1, none⟩ = some (.string (BA t1)) ∧ w'.cell? ⟨ab, 0, none⟩ = some (.int .i64 N2) ∧ w'.cell? ⟨ab, 1, none⟩ = some (.string (BA t2))) (go_keep) ((go_at_call 95; refine (unhide HTI _ (by first | exact unhide HGT | exact (unhide HGT).below (below_drew _ _))).mono ?_; rintro e wt ⟨rfl, ⟨a0, a1, a2, a3, a4⟩, HG1⟩))
                clear k0 k1 k2 k3 k4
                have ⟨k0, k1, k2, k3, k4⟩ := (unhide HG1).cs
                clear a0 a1 a2 a3 a4 HTI HGT
                go_wp2_with fail
                go_region_held3 (fun w' => w'.cell? ⟨f, 0, none⟩ = some (.pointer (some ⟨q, 0, none⟩)) ∧ w'.cell? ⟨ob, 0, none⟩ = some (.int .i64 N1) ∧ w'.cell? ⟨ob, 1, none⟩ = some (.string (BA t1)) ∧ w'.cell? ⟨ab, 0, none⟩ = some (.int .i64 N2) ∧ w'.cell? ⟨ab, 1, none⟩ = some (.string (BA t2))) (go_keep) ((go_at_call 64; refine (unhide HUT _ (by first | exact unhide HG1 | exact (unhide HG1).below (below_drew _ _))).mono ?_; rintro e wu ⟨rfl, ⟨a0, a1, a2, a3, a4⟩, HG2⟩))
                clear k0 k1 k2 k3 k4 HUT HG1
                have HID2 := hide (gisDir_any (unhide HG2).at' i (by omega))
                have HKD2 : Hid (kdI s.T i ≠ 2) := hide (by rw [(unhide HQ).kd]; exact of_decide_eq_false (unhide HGD))
                rw [show decide (kdI (untT (tieT s.T i) i) i = 2) = false by rw [tie_unt (unhide HQ).nm]; exact decide_eq_false (unhide HKD2)] at HID2
                have HX : Hid (FX wu f q Y RS nb (n + 1) B) := hide ((unhide HH).widen ((unhide HRM wu).1 (unhide HKD2) (unhide HG2).at') (unhide HG2).zy (unhide HG2).gr (unhide HOK))
                go_wp2_with fail
                refine (unhide HID2).mono ?_
                rintro e wv ⟨rfl, hwv⟩
                have hwv2 := hwv.symm
                subst hwv2
                clear hwv HID2 a0 a1 a2 a3 a4 HG2
                go_wp2_with fail
                go_ret
                exact ⟨rfl, HX⟩
            · have HKZ := hide hk0
              rw [decide_eq_true hk0] at HLK2
              have HKP : Hid (0 < k) := hide (by omega)
              by_cases hik : k = i
              · subst hik
                have hre : RE = 0 := by rw [unhide HRI, if_pos rfl]
                have HXF : Hid (∀ W, Rn w W f q Y Z s nb n B ob ab N1 t1 N2 t2 → FX W f q Y RS nb (n + 1) B) := hide (fun W h => by rw [(unhide HRR).2]; unfold renS; rw [if_neg (fun e => e.2 rfl)]; exact (unhide HH).widen h.fx.nd.at' h.zy h.gr ((unhide HH).nd.ok.mono (Nat.le_succ _)))
                subst hre
                clear hk0 HRR HRI
                go_wp2_with fail
                go_region_held3 (fun w' => w'.cell? ⟨f, 0, none⟩ = some (.pointer (some ⟨q, 0, none⟩)) ∧ w'.cell? ⟨ob, 0, none⟩ = some (.int .i64 N1) ∧ w'.cell? ⟨ob, 1, none⟩ = some (.string (BA t1)) ∧ w'.cell? ⟨ab, 0, none⟩ = some (.int .i64 N2) ∧ w'.cell? ⟨ab, 1, none⟩ = some (.string (BA t2))) (go_keep) ((go_at_call 91; refine (unhide HLK2 _ (by first | exact unhide HR6 | exact (unhide HR6).below (below_drew _ _))).mono ?_; rintro e W8 ⟨rfl, ⟨a0, a1, a2, a3, a4⟩, HR8⟩))
                have HX := hide (unhide HXF _ (unhide HR8))
                clear k0 k1 k2 k3 k4 a0 a1 a2 a3 a4
                go_wp2_with fail
                go_ret
                exact ⟨rfl, HX⟩
              · have hik2 : (k == i) = false := by simpa using hik
                have HIK : Hid (i ≠ k) := hide (fun e => hik e.symm)
                have HRI2 : Hid (RE = if isD s i = true ∧ belP s N2 i = true then 35 else overE s i k) := hide (by rw [unhide HRI, if_neg (unhide HIK), if_pos (unhide HKP)])
                clear hk0 hik
                go_wp2_with fail
                go_region_held3 (fun w' => w'.cell? ⟨f, 0, none⟩ = some (.pointer (some ⟨q, 0, none⟩)) ∧ w'.cell? ⟨ob, 0, none⟩ = some (.int .i64 N1) ∧ w'.cell? ⟨ob, 1, none⟩ = some (.string (BA t1)) ∧ w'.cell? ⟨ab, 0, none⟩ = some (.int .i64 N2) ∧ w'.cell? ⟨ab, 1, none⟩ = some (.string (BA t2))) (go_keep) ((go_at_call 91; refine (unhide HLK2 _ (by first | exact unhide HR6 | exact (unhide HR6).below (below_drew _ _))).mono ?_; rintro e W8 ⟨rfl, ⟨a0, a1, a2, a3, a4⟩, HR8⟩))
                clear k0 k1 k2 k3 k4
                have ⟨k0, k1, k2, k3, k4⟩ := (unhide HR8).cs
                clear a0 a1 a2 a3 a4 HR6
                have HID := hide (fun j => isDir_any ((unhide HR8).fx.below (below_drew W8 j)).nd i (by omega))
                have HWI := hide (fun j => nwithin_any ((unhide HR8).fx.below (below_drew W8 j)).nd N2 i (unhide HK2) (unhide HZN))
                cases hgd : isD s i with
                | true =>
                  have HGD := hide hgd
                  rw [hgd] at HID HRI2
                  cases hbl : belP s N2 i with
                  | true =>
                    rw [hbl] at HWI HRI2
                    have hre : RE = 35 := by rw [unhide HRI2]; simp
                    have HXF : Hid (∀ W, Rn w W f q Y Z s nb n B ob ab N1 t1 N2 t2 → FX W f q Y RS nb (n + 1) B) := hide (fun W h => by rw [unhide HER (by rw [hre]; decide)]; exact (unhide HH).widen h.fx.nd.at' h.zy h.gr ((unhide HH).nd.ok.mono (Nat.le_succ _)))
                    subst hre
                    clear hgd hbl HRR HRI HRI2
                    go_wp2_with fail
                    go_quiet ((first | (go_at_call 63; exact Calls.quiet_of_same (unhide HID _)) | (go_at_call 93; exact Calls.quiet_of_same (unhide HWI _))))
                    have HX := hide (unhide HXF _ (unhide HRD _ nq (unhide HR8)))
                    go_wp2_with fail
                    go_ret
                    exact ⟨rfl, HX⟩
                  | false =>
                    rw [hbl] at HWI HRI2
                    simp only [Bool.false_eq_true, and_false, if_false] at HRI2
                    clear hgd hbl
                    go_wp2_with fail
                    go_quiet ((first | (go_at_call 63; exact Calls.quiet_of_same (unhide HID _)) | (go_at_call 93; exact Calls.quiet_of_same (unhide HWI _))))
                    obtain ⟨W9, hW9⟩ : ∃ W9, W9 = W8.drewN nq := ⟨_, rfl⟩
                    rw [← hW9]
                    have HR9 : Hid (Rn w W9 f q Y Z s nb n B ob ab N1 t1 N2 t2) := hide (by rw [hW9]; exact unhide HRD _ _ (unhide HR8))
                    clear hW9 k0 k1 k2 k3 k4 HR8 HID HWI
                    have k0 : W9.cell? ⟨f, 0, none⟩ = some (.pointer (some ⟨q, 0, none⟩)) := (unhide HR9).cs.1
                    have k1 : W9.cell? ⟨ob, 0, none⟩ = some (.int .i64 N1) := (unhide HR9).cs.2.1
                    have k2 : W9.cell? ⟨ob, 1, none⟩ = some (.string (BA t1)) := (unhide HR9).cs.2.2.1
                    have k3 : W9.cell? ⟨ab, 0, none⟩ = some (.int .i64 N2) := (unhide HR9).cs.2.2.2.1
                    have k4 : W9.cell? ⟨ab, 1, none⟩ = some (.string (BA t2)) := (unhide HR9).cs.2.2.2.2
                    have HRV := hide (refuseOver_any (unhide HR9).fx.nd i k (by omega) (by omega))
                    obtain ⟨E9, hE9⟩ : ∃ E9, E9 = overE s i k := ⟨_, rfl⟩
                    have HE9 := hide hE9
                    rw [← hE9] at HRV HRI2
                    clear hE9
                    by_cases hE0 : E9 = 0
                    · subst hE0
                      have hre : RE = 0 := unhide HRI2
                      subst hre
                      have HQ := hide (renR_gone (unhide HH).nd.ok (unhide HFI) (unhide HI0) (unhide HFK) (unhide HKZ) (unhide HIK) (unhide HK2) (unhide HE9).symm)
                      have HRS1 : Hid (RS = renT (goneS s N2 t2) A C i) := hide (by rw [(unhide HRR).2]; unfold renS; rw [if_pos ⟨(unhide HRR).1.symm, unhide HIK⟩, if_pos (unhide HKP), ← (unhide HV2).1, ← (unhide HV2).2])
                      have HUO : Hid (∀ W, Rn w W f q Y Z s nb n B ob ab N1 t1 N2 t2 → Calls Tryz.prog 64 #[.pointer (some ⟨q, 0, none⟩), .agg #[.int .i64 N2, .string (BA t2)], .int .i64 k] W fun e w' => e = .returned (.tuple #[]) ∧ Cs w' f q ob ab N1 t1 N2 t2 ∧ Hid (Rn w w' f q Y Z (goneS s N2 t2) nb n B ob ab N1 t1 N2 t2)) := hide (fun W h => (untie_any h.toG.at' h.fx.new N2 t2 k (fun c hc e => up_or h.fx.nd.ok.up hc e) (unhide HK2) (by omega) (by omega) (fun j y hy => Nat.le_trans (h.fx.nd.ok.gd j y hy).2.1 (by omega))).mono fun _ w' ⟨e1, e2⟩ => by have h2 := h.turn (gone_mem (unhide HFK) (unhide e2).1) (unhide e2).2 (unhide HQ).ok; exact ⟨e1, h2.cs, hide h2⟩)
                      go_wp2_with fail
                      refine (unhide HRV).mono ?_
                      rintro e wo ⟨rfl, hwo⟩
                      have hwo2 := hwo.symm
                      subst hwo2
                      clear hwo HRV
                      go_wp2_with fail
                      go_region_held3 (fun w' => w'.cell? ⟨f, 0, none⟩ = some (.pointer (some ⟨q, 0, none⟩)) ∧ w'.cell? ⟨ob, 0, none⟩ = some (.int .i64 N1) ∧ w'.cell? ⟨ob, 1, none⟩ = some (.string (BA t1)) ∧ w'.cell? ⟨ab, 0, none⟩ = some (.int .i64 N2) ∧ w'.cell? ⟨ab, 1, none⟩ = some (.string (BA t2))) (go_keep) ((go_at_call 64; refine (unhide HUO _ (by first | exact unhide HR9 | exact (unhide HR9).below (below_drew _ _))).mono ?_; rintro e wx ⟨rfl, ⟨a0, a1, a2, a3, a4⟩, HRT⟩))
                      clear k0 k1 k2 k3 k4
                      have ⟨k0, k1, k2, k3, k4⟩ := (unhide HRT).cs
                      clear a0 a1 a2 a3 a4 HUO HR9
                      have HTI : Hid (∀ W, Gn w W f q Y Z (goneS s N2 t2).T (goneS s N2 t2).L (goneS s N2 t2).par (fun d => kdI (goneS s N2 t2).T d = 2) nb ob ab N1 t1 N2 t2 → Calls Tryz.prog 95 #[.pointer (some ⟨q, 0, none⟩), .agg #[.int .i64 N2, .string (BA t2)], .int .i64 i] W fun e w' => e = .returned (.tuple #[]) ∧ Cs w' f q ob ab N1 t1 N2 t2 ∧ Hid (Gn w w' f q Y Z (tieT (goneS s N2 t2).T i) (putL (goneS s N2 t2).L ⟨N2, t2, i⟩) (goneS s N2 t2).par (fun d => kdI (goneS s N2 t2).T d = 2) nb ob ab N1 t1 N2 t2)) := hide (fun W h => (tie_any h.at' h.new ⟨N2, t2, i⟩ (unhide HQ).d2 (unhide HQ).ok.inv.srt (unhide HQ).no (by show t2.length ≤ 1000000; omega) (by have := (unhide HQ).ok.len; omega) (by show _ ≤ i ∧ i ≤ _; omega) (fun k y hy => Nat.le_trans ((unhide HQ).ok.gd k y hy).2.1 (by omega))).mono fun _ w' ⟨e1, e2⟩ => by have h2 := h.turn (unhide e2).1 (unhide e2).2; exact ⟨e1, h2.cs, hide h2⟩)
                      have HUT : Hid (∀ W, Gn w W f q Y Z (tieT (goneS s N2 t2).T i) (putL (goneS s N2 t2).L ⟨N2, t2, i⟩) (goneS s N2 t2).par (fun d => kdI (goneS s N2 t2).T d = 2) nb ob ab N1 t1 N2 t2 → Calls Tryz.prog 64 #[.pointer (some ⟨q, 0, none⟩), .agg #[.int .i64 N1, .string (BA t1)], .int .i64 i] W fun e w' => e = .returned (.tuple #[]) ∧ Cs w' f q ob ab N1 t1 N2 t2 ∧ Hid (Gn w w' f q Y Z (untT (tieT (goneS s N2 t2).T i) i) (dropL (putL (goneS s N2 t2).L ⟨N2, t2, i⟩) N1 t1) (forgP (untT (tieT (goneS s N2 t2).T i) i) i (goneS s N2 t2).par) (keepD (untT (tieT (goneS s N2 t2).T i) i) i (fun d => kdI (goneS s N2 t2).T d = 2)) nb ob ab N1 t1 N2 t2)) := hide (fun W h => (untie_any h.at' h.new N1 t1 i (fun c hc e => up_or (unhide HQ).ok.up hc e) (unhide HQ).d1 (by omega) (by omega) (fun k y hy => Nat.le_trans ((good_tie (unhide HQ).ok.gd i) k y hy).2.1 (by omega))).mono fun _ w' ⟨e1, e2⟩ => by have h2 := h.turn (unhide e2).1 (unhide e2).2; exact ⟨e1, h2.cs, hide h2⟩)
                      have HRM : Hid (∀ W, (kdI (goneS s N2 t2).T i ≠ 2 → GAt W q Z (untT (tieT (goneS s N2 t2).T i) i) (dropL (putL (goneS s N2 t2).L ⟨N2, t2, i⟩) N1 t1) (forgP (untT (tieT (goneS s N2 t2).T i) i) i (goneS s N2 t2).par) (keepD (untT (tieT (goneS s N2 t2).T i) i) i (fun d => kdI (goneS s N2 t2).T d = 2)) nb → NdAt W q Z RS nb) ∧ (kdI (goneS s N2 t2).T i = 2 → GAt W q Z (untT (tieT (goneS s N2 t2).T i) i) (dropL (putL (goneS s N2 t2).L ⟨N2, t2, i⟩) N1 t1) (parU (forgP (untT (tieT (goneS s N2 t2).T i) i) i (goneS s N2 t2).par) i N2) (keepD (untT (tieT (goneS s N2 t2).T i) i) i (fun d => kdI (goneS s N2 t2).T d = 2)) nb → NdAt W q Z RS nb)) := hide (fun W => by
                        rw [unhide HRS1]
                        have h := ren_mem (w' := W) (q := q) (nb := nb) (Y := Z) (s1 := (goneS s N2 t2)) (A := A) (B := C) (i := i) (unhide HQ).nm (unhide HQ).ok.up (unhide HI0) (unhide HQ).ok.inv.srt (by rw [← (unhide HV2).1, ← (unhide HV2).2]; exact (unhide HQ).no) (by rw [← (unhide HV2).1, ← (unhide HV2).2, ← (unhide HV1).1, ← (unhide HV1).2]; exact (unhide HQ).ne)
                        rw [← (unhide HV2).1, ← (unhide HV2).2, ← (unhide HV1).1, ← (unhide HV1).2] at h
                        exact h)
                      have HGT := hide (unhide HRT).toG
                      clear HRT
                      go_wp2_with fail
                      go_region_held3 (fun w' => w'.cell? ⟨f, 0, none⟩ = some (.pointer (some ⟨q, 0, none⟩)) ∧ w'.cell? ⟨ob, 0, none⟩ = some (.int .i64 N1) ∧ w'.cell? ⟨ob, 1, none⟩ = some (.string (BA t1)) ∧ w'.cell? ⟨ab, 0, none⟩ = some (.int .i64 N2) ∧ w'.cell? ⟨ab, 1, none⟩ = some (.string (BA t2))) (go_keep) ((go_at_call 95; refine (unhide HTI _ (by first | exact unhide HGT | exact (unhide HGT).below (below_drew _ _))).mono ?_; rintro e wt ⟨rfl, ⟨a0, a1, a2, a3, a4⟩, HG1⟩))
                      clear k0 k1 k2 k3 k4
                      have ⟨k0, k1, k2, k3, k4⟩ := (unhide HG1).cs
                      clear a0 a1 a2 a3 a4 HTI HGT
                      go_wp2_with fail
                      go_region_held3 (fun w' => w'.cell? ⟨f, 0, none⟩ = some (.pointer (some ⟨q, 0, none⟩)) ∧ w'.cell? ⟨ob, 0, none⟩ = some (.int .i64 N1) ∧ w'.cell? ⟨ob, 1, none⟩ = some (.string (BA t1)) ∧ w'.cell? ⟨ab, 0, none⟩ = some (.int .i64 N2) ∧ w'.cell? ⟨ab, 1, none⟩ = some (.string (BA t2))) (go_keep) ((go_at_call 64; refine (unhide HUT _ (by first | exact unhide HG1 | exact (unhide HG1).below (below_drew _ _))).mono ?_; rintro e wu ⟨rfl, ⟨a0, a1, a2, a3, a4⟩, HG2⟩))
                      clear k0 k1 k2 k3 k4 HUT HG1
                      have HID2 := hide (gisDir_any (unhide HG2).at' i (by omega))
                      have HKD2 : Hid (kdI (goneS s N2 t2).T i = 2) := hide (by rw [(unhide HQ).kd]; exact of_decide_eq_true (unhide HGD))
                      rw [show decide (kdI (untT (tieT (goneS s N2 t2).T i) i) i = 2) = true by rw [tie_unt (unhide HQ).nm, unhide HKD2]; rfl] at HID2
                      go_wp2_with fail
                      refine (unhide HID2).mono ?_
                      rintro e wv ⟨rfl, hwv⟩
                      have hwv2 := hwv.symm
                      subst hwv2
                      clear hwv HID2
                      have HMV : Hid (∀ W, Gn w W f q Y Z (untT (tieT (goneS s N2 t2).T i) i) (dropL (putL (goneS s N2 t2).L ⟨N2, t2, i⟩) N1 t1) (forgP (untT (tieT (goneS s N2 t2).T i) i) i (goneS s N2 t2).par) (keepD (untT (tieT (goneS s N2 t2).T i) i) i (fun d => kdI (goneS s N2 t2).T d = 2)) nb ob ab N1 t1 N2 t2 → Calls Tryz.prog 96 #[.pointer (some ⟨q, 0, none⟩), .int .i64 i, .int .i64 N2] W fun e w' => e = .returned (.tuple #[]) ∧ Cs w' f q ob ab N1 t1 N2 t2 ∧ Hid (Gn w w' f q Y Z (untT (tieT (goneS s N2 t2).T i) i) (dropL (putL (goneS s N2 t2).L ⟨N2, t2, i⟩) N1 t1) (parU (forgP (untT (tieT (goneS s N2 t2).T i) i) i (goneS s N2 t2).par) i N2) (keepD (untT (tieT (goneS s N2 t2).T i) i) i (fun d => kdI (goneS s N2 t2).T d = 2)) nb ob ab N1 t1 N2 t2)) := hide (fun W h => (move_any h.at' i N2 ⟨unhide HKD2, fun h0 => absurd (by rw [tie_unt (unhide HQ).nm]; exact unhide HKD2) h0⟩).mono fun _ w' ⟨e1, e2⟩ => by have h2 := h.turn (unhide e2).1 (unhide e2).2; exact ⟨e1, h2.cs, hide h2⟩)
                      go_wp2_with fail
                      go_region_held3 (fun w' => w'.cell? ⟨f, 0, none⟩ = some (.pointer (some ⟨q, 0, none⟩)) ∧ w'.cell? ⟨ob, 0, none⟩ = some (.int .i64 N1) ∧ w'.cell? ⟨ob, 1, none⟩ = some (.string (BA t1)) ∧ w'.cell? ⟨ab, 0, none⟩ = some (.int .i64 N2) ∧ w'.cell? ⟨ab, 1, none⟩ = some (.string (BA t2))) (go_keep) ((go_at_call 96; refine (unhide HMV _ (by first | exact unhide HG2 | exact (unhide HG2).below (below_drew _ _))).mono ?_; rintro e wm ⟨rfl, ⟨b0, b1, b2, b3, b4⟩, HG3⟩))
                      have HX : Hid (FX wm f q Y RS nb (n + 1) B) := hide ((unhide HH).widen ((unhide HRM wm).2 (unhide HKD2) (unhide HG3).at') (unhide HG3).zy (unhide HG3).gr (unhide HOK))
                      clear a0 a1 a2 a3 a4 b0 b1 b2 b3 b4 HMV HG3 HG2
                      go_wp2_with fail
                      go_ret
                      exact ⟨rfl, HX⟩
                    · have hE1 : (E9 != 0) = true := by simpa using hE0
                      have hre : RE = E9 := unhide HRI2
                      have HX : Hid (FX W9 f q Y RS nb (n + 1) B) := hide (by rw [unhide HER (by rw [hre]; exact hE0)]; exact (unhide HH).widen (unhide HR9).fx.nd.at' (unhide HR9).zy (unhide HR9).gr ((unhide HH).nd.ok.mono (Nat.le_succ _)))
                      subst hre
                      clear hE0
                      go_wp2_with fail
                      refine (unhide HRV).mono ?_
                      rintro e wo ⟨rfl, hwo⟩
                      have hwo2 := hwo.symm
                      subst hwo2
                      clear hwo HRV
                      go_wp2_with fail
                      go_ret
                      exact ⟨rfl, HX⟩
                | false =>
                  have HGD := hide hgd
                  rw [hgd] at HID HRI2
                  simp only [Bool.false_eq_true, false_and, if_false] at HRI2
                  clear hgd
                  go_wp2_with fail
                  go_quiet ((first | (go_at_call 63; exact Calls.quiet_of_same (unhide HID _)) | (go_at_call 93; exact Calls.quiet_of_same (unhide HWI _))))
                  obtain ⟨W9, hW9⟩ : ∃ W9, W9 = W8.drewN nq := ⟨_, rfl⟩
                  rw [← hW9]
                  have HR9 : Hid (Rn w W9 f q Y Z s nb n B ob ab N1 t1 N2 t2) := hide (by rw [hW9]; exact unhide HRD _ _ (unhide HR8))
                  clear hW9 k0 k1 k2 k3 k4 HR8 HID HWI
                  have k0 : W9.cell? ⟨f, 0, none⟩ = some (.pointer (some ⟨q, 0, none⟩)) := (unhide HR9).cs.1
                  have k1 : W9.cell? ⟨ob, 0, none⟩ = some (.int .i64 N1) := (unhide HR9).cs.2.1
                  have k2 : W9.cell? ⟨ob, 1, none⟩ = some (.string (BA t1)) := (unhide HR9).cs.2.2.1
                  have k3 : W9.cell? ⟨ab, 0, none⟩ = some (.int .i64 N2) := (unhide HR9).cs.2.2.2.1
                  have k4 : W9.cell? ⟨ab, 1, none⟩ = some (.string (BA t2)) := (unhide HR9).cs.2.2.2.2
                  have HRV := hide (refuseOver_any (unhide HR9).fx.nd i k (by omega) (by omega))
                  obtain ⟨E9, hE9⟩ : ∃ E9, E9 = overE s i k := ⟨_, rfl⟩
                  have HE9 := hide hE9
                  rw [← hE9] at HRV HRI2
                  clear hE9
                  by_cases hE0 : E9 = 0
                  · subst hE0
                    have hre : RE = 0 := unhide HRI2
                    subst hre
                    have HQ := hide (renR_gone (unhide HH).nd.ok (unhide HFI) (unhide HI0) (unhide HFK) (unhide HKZ) (unhide HIK) (unhide HK2) (unhide HE9).symm)
                    have HRS1 : Hid (RS = renT (goneS s N2 t2) A C i) := hide (by rw [(unhide HRR).2]; unfold renS; rw [if_pos ⟨(unhide HRR).1.symm, unhide HIK⟩, if_pos (unhide HKP), ← (unhide HV2).1, ← (unhide HV2).2])
                    have HUO : Hid (∀ W, Rn w W f q Y Z s nb n B ob ab N1 t1 N2 t2 → Calls Tryz.prog 64 #[.pointer (some ⟨q, 0, none⟩), .agg #[.int .i64 N2, .string (BA t2)], .int .i64 k] W fun e w' => e = .returned (.tuple #[]) ∧ Cs w' f q ob ab N1 t1 N2 t2 ∧ Hid (Rn w w' f q Y Z (goneS s N2 t2) nb n B ob ab N1 t1 N2 t2)) := hide (fun W h => (untie_any h.toG.at' h.fx.new N2 t2 k (fun c hc e => up_or h.fx.nd.ok.up hc e) (unhide HK2) (by omega) (by omega) (fun j y hy => Nat.le_trans (h.fx.nd.ok.gd j y hy).2.1 (by omega))).mono fun _ w' ⟨e1, e2⟩ => by have h2 := h.turn (gone_mem (unhide HFK) (unhide e2).1) (unhide e2).2 (unhide HQ).ok; exact ⟨e1, h2.cs, hide h2⟩)
                    go_wp2_with fail
                    refine (unhide HRV).mono ?_
                    rintro e wo ⟨rfl, hwo⟩
                    have hwo2 := hwo.symm
                    subst hwo2
                    clear hwo HRV
                    go_wp2_with fail
                    go_region_held3 (fun w' => w'.cell? ⟨f, 0, none⟩ = some (.pointer (some ⟨q, 0, none⟩)) ∧ w'.cell? ⟨ob, 0, none⟩ = some (.int .i64 N1) ∧ w'.cell? ⟨ob, 1, none⟩ = some (.string (BA t1)) ∧ w'.cell? ⟨ab, 0, none⟩ = some (.int .i64 N2) ∧ w'.cell? ⟨ab, 1, none⟩ = some (.string (BA t2))) (go_keep) ((go_at_call 64; refine (unhide HUO _ (by first | exact unhide HR9 | exact (unhide HR9).below (below_drew _ _))).mono ?_; rintro e wx ⟨rfl, ⟨a0, a1, a2, a3, a4⟩, HRT⟩))
                    clear k0 k1 k2 k3 k4
                    have ⟨k0, k1, k2, k3, k4⟩ := (unhide HRT).cs
                    clear a0 a1 a2 a3 a4 HUO HR9
                    have HTI : Hid (∀ W, Gn w W f q Y Z (goneS s N2 t2).T (goneS s N2 t2).L (goneS s N2 t2).par (fun d => kdI (goneS s N2 t2).T d = 2) nb ob ab N1 t1 N2 t2 → Calls Tryz.prog 95 #[.pointer (some ⟨q, 0, none⟩), .agg #[.int .i64 N2, .string (BA t2)], .int .i64 i] W fun e w' => e = .returned (.tuple #[]) ∧ Cs w' f q ob ab N1 t1 N2 t2 ∧ Hid (Gn w w' f q Y Z (tieT (goneS s N2 t2).T i) (putL (goneS s N2 t2).L ⟨N2, t2, i⟩) (goneS s N2 t2).par (fun d => kdI (goneS s N2 t2).T d = 2) nb ob ab N1 t1 N2 t2)) := hide (fun W h => (tie_any h.at' h.new ⟨N2, t2, i⟩ (unhide HQ).d2 (unhide HQ).ok.inv.srt (unhide HQ).no (by show t2.length ≤ 1000000; omega) (by have := (unhide HQ).ok.len; omega) (by show _ ≤ i ∧ i ≤ _; omega) (fun k y hy => Nat.le_trans ((unhide HQ).ok.gd k y hy).2.1 (by omega))).mono fun _ w' ⟨e1, e2⟩ => by have h2 := h.turn (unhide e2).1 (unhide e2).2; exact ⟨e1, h2.cs, hide h2⟩)
                    have HUT : Hid (∀ W, Gn w W f q Y Z (tieT (goneS s N2 t2).T i) (putL (goneS s N2 t2).L ⟨N2, t2, i⟩) (goneS s N2 t2).par (fun d => kdI (goneS s N2 t2).T d = 2) nb ob ab N1 t1 N2 t2 → Calls Tryz.prog 64 #[.pointer (some ⟨q, 0, none⟩), .agg #[.int .i64 N1, .string (BA t1)], .int .i64 i] W fun e w' => e = .returned (.tuple #[]) ∧ Cs w' f q ob ab N1 t1 N2 t2 ∧ Hid (Gn w w' f q Y Z (untT (tieT (goneS s N2 t2).T i) i) (dropL (putL (goneS s N2 t2).L ⟨N2, t2, i⟩) N1 t1) (forgP (untT (tieT (goneS s N2 t2).T i) i) i (goneS s N2 t2).par) (keepD (untT (tieT (goneS s N2 t2).T i) i) i (fun d => kdI (goneS s N2 t2).T d = 2)) nb ob ab N1 t1 N2 t2)) := hide (fun W h => (untie_any h.at' h.new N1 t1 i (fun c hc e => up_or (unhide HQ).ok.up hc e) (unhide HQ).d1 (by omega) (by omega) (fun k y hy => Nat.le_trans ((good_tie (unhide HQ).ok.gd i) k y hy).2.1 (by omega))).mono fun _ w' ⟨e1, e2⟩ => by have h2 := h.turn (unhide e2).1 (unhide e2).2; exact ⟨e1, h2.cs, hide h2⟩)
                    have HRM : Hid (∀ W, (kdI (goneS s N2 t2).T i ≠ 2 → GAt W q Z (untT (tieT (goneS s N2 t2).T i) i) (dropL (putL (goneS s N2 t2).L ⟨N2, t2, i⟩) N1 t1) (forgP (untT (tieT (goneS s N2 t2).T i) i) i (goneS s N2 t2).par) (keepD (untT (tieT (goneS s N2 t2).T i) i) i (fun d => kdI (goneS s N2 t2).T d = 2)) nb → NdAt W q Z RS nb) ∧ (kdI (goneS s N2 t2).T i = 2 → GAt W q Z (untT (tieT (goneS s N2 t2).T i) i) (dropL (putL (goneS s N2 t2).L ⟨N2, t2, i⟩) N1 t1) (parU (forgP (untT (tieT (goneS s N2 t2).T i) i) i (goneS s N2 t2).par) i N2) (keepD (untT (tieT (goneS s N2 t2).T i) i) i (fun d => kdI (goneS s N2 t2).T d = 2)) nb → NdAt W q Z RS nb)) := hide (fun W => by
                      rw [unhide HRS1]
                      have h := ren_mem (w' := W) (q := q) (nb := nb) (Y := Z) (s1 := (goneS s N2 t2)) (A := A) (B := C) (i := i) (unhide HQ).nm (unhide HQ).ok.up (unhide HI0) (unhide HQ).ok.inv.srt (by rw [← (unhide HV2).1, ← (unhide HV2).2]; exact (unhide HQ).no) (by rw [← (unhide HV2).1, ← (unhide HV2).2, ← (unhide HV1).1, ← (unhide HV1).2]; exact (unhide HQ).ne)
                      rw [← (unhide HV2).1, ← (unhide HV2).2, ← (unhide HV1).1, ← (unhide HV1).2] at h
                      exact h)
                    have HGT := hide (unhide HRT).toG
                    clear HRT
                    go_wp2_with fail
                    go_region_held3 (fun w' => w'.cell? ⟨f, 0, none⟩ = some (.pointer (some ⟨q, 0, none⟩)) ∧ w'.cell? ⟨ob, 0, none⟩ = some (.int .i64 N1) ∧ w'.cell? ⟨ob, 1, none⟩ = some (.string (BA t1)) ∧ w'.cell? ⟨ab, 0, none⟩ = some (.int .i64 N2) ∧ w'.cell? ⟨ab, 1, none⟩ = some (.string (BA t2))) (go_keep) ((go_at_call 95; refine (unhide HTI _ (by first | exact unhide HGT | exact (unhide HGT).below (below_drew _ _))).mono ?_; rintro e wt ⟨rfl, ⟨a0, a1, a2, a3, a4⟩, HG1⟩))
                    clear k0 k1 k2 k3 k4
                    have ⟨k0, k1, k2, k3, k4⟩ := (unhide HG1).cs
                    clear a0 a1 a2 a3 a4 HTI HGT
                    go_wp2_with fail
                    go_region_held3 (fun w' => w'.cell? ⟨f, 0, none⟩ = some (.pointer (some ⟨q, 0, none⟩)) ∧ w'.cell? ⟨ob, 0, none⟩ = some (.int .i64 N1) ∧ w'.cell? ⟨ob, 1, none⟩ = some (.string (BA t1)) ∧ w'.cell? ⟨ab, 0, none⟩ = some (.int .i64 N2) ∧ w'.cell? ⟨ab, 1, none⟩ = some (.string (BA t2))) (go_keep) ((go_at_call 64; refine (unhide HUT _ (by first | exact unhide HG1 | exact (unhide HG1).below (below_drew _ _))).mono ?_; rintro e wu ⟨rfl, ⟨a0, a1, a2, a3, a4⟩, HG2⟩))
                    clear k0 k1 k2 k3 k4 HUT HG1
                    have HID2 := hide (gisDir_any (unhide HG2).at' i (by omega))
                    have HKD2 : Hid (kdI (goneS s N2 t2).T i ≠ 2) := hide (by rw [(unhide HQ).kd]; exact of_decide_eq_false (unhide HGD))
                    rw [show decide (kdI (untT (tieT (goneS s N2 t2).T i) i) i = 2) = false by rw [tie_unt (unhide HQ).nm]; exact decide_eq_false (unhide HKD2)] at HID2
                    have HX : Hid (FX wu f q Y RS nb (n + 1) B) := hide ((unhide HH).widen ((unhide HRM wu).1 (unhide HKD2) (unhide HG2).at') (unhide HG2).zy (unhide HG2).gr (unhide HOK))
                    go_wp2_with fail
                    refine (unhide HID2).mono ?_
                    rintro e wv ⟨rfl, hwv⟩
                    have hwv2 := hwv.symm
                    subst hwv2
                    clear hwv HID2 a0 a1 a2 a3 a4 HG2
                    go_wp2_with fail
                    go_ret
                    exact ⟨rfl, HX⟩
                  · have hE1 : (E9 != 0) = true := by simpa using hE0
                    have hre : RE = E9 := unhide HRI2
                    have HX : Hid (FX W9 f q Y RS nb (n + 1) B) := hide (by rw [unhide HER (by rw [hre]; exact hE0)]; exact (unhide HH).widen (unhide HR9).fx.nd.at' (unhide HR9).zy (unhide HR9).gr ((unhide HH).nd.ok.mono (Nat.le_succ _)))
                    subst hre
                    clear hE0
                    go_wp2_with fail
                    refine (unhide HRV).mono ?_
                    rintro e wo ⟨rfl, hwo⟩
                    have hwo2 := hwo.symm
                    subst hwo2
                    clear hwo HRV
                    go_wp2_with fail
                    go_ret
                    exact ⟨rfl, HX⟩
      · have hE3 : (E2 != 0) = true := by simpa using hE2
        have hre : RE = E2 := by
          have h1 := (unhide HI1).1
          have h2 := (unhide HI2).1
          rw [unhide HRE]
          unfold renE
          rw [if_neg (by rw [← h1]; decide), if_pos (by rw [← h2]; exact hE2)]
          exact h2.symm
        subst hre
        have HX : Hid (FX (w4.alloc (.cells #[.int .i64 N2, .string (BA t2)] 109)) f q Y RS nb (n + 1) B) := hide (by rw [unhide HER hE2]; exact ((unhide HH).below (unhide HB5)).mono (Nat.le_succ _))
        clear hE2
        go_wp2_with fail
        go_ret
        exact ⟨rfl, HX⟩
    · have hE3 : (E1 != 0) = true := by simpa using hE1
      have hre : RE = E1 := by
        have h1 := (unhide HI1).1
        rw [unhide HRE]
        unfold renE
        rw [if_pos (by rw [← h1]; exact hE1)]
        exact h1.symm
      subst hre
      have HX : Hid (FX (w2.alloc (.cells #[.int .i64 N1, .string (BA t1)] 109)) f q Y RS nb (n + 1) B) := hide (by rw [unhide HER hE1]; exact ((unhide HH).below (unhide HB3)).mono (Nat.le_succ _))
      clear hE1
      go_wp2_with fail
      go_ret
      exact ⟨rfl, HX⟩

end Go.Proofs.YtnpeiibecihleaaGreatDoor

/- Directories (stage 13): New. -/
namespace Go.Proofs.YtnpeiibecihleaaGreatDoor
open Go.RowKit Go.Maps

theorem root_all {n : Nat} (h : 1 ≤ n) : makeE (List.replicate n (none : Option Nd)) 2 = 0 ∧ makeN (List.replicate n (none : Option Nd)) 2 = 1 ∧ ∀ k, kdI (rootS n).T k = if k = 1 then 2 else 0 := by
  obtain ⟨m, rfl⟩ : ∃ m, n = m + 1 := ⟨n - 1, by omega⟩
  have hf : frAt (List.replicate (m + 1) (none : Option Nd)) = 0 := by unfold frAt; simp [List.replicate_succ, List.findIdx_cons]
  have hE : makeE (List.replicate (m + 1) none) 2 = 0 := by unfold makeE; rw [hf]; simp [kindOk]
  have hN : makeN (List.replicate (m + 1) none) 2 = 1 := by unfold makeN; rw [hf]; simp [kindOk]
  refine ⟨hE, hN, fun k => ?_⟩
  obtain ⟨a1, a2, a3⟩ := make_all hE
  rw [hN] at a3
  have a4 := a3 1
  rw [if_pos rfl] at a4
  show kdI (tieT (makeT (List.replicate (m + 1) none) 2) 1) k = _
  rw [(tie_all a4 k).2]
  unfold kdI
  rw [a3]
  split
  · rfl
  · have : ndAt (List.replicate (m + 1) (none : Option Nd)) k = none := by
      cases hx : ndAt (List.replicate (m + 1) (none : Option Nd)) k with
      | none => rfl
      | some x =>
        obtain ⟨j, _, hj, _⟩ := ndAt_some hx
        exact absurd hj (by rw [List.getElem?_replicate]; split <;> simp)
    rw [this]
    rfl
theorem ok_root {n : Nat} (h : 1 ≤ n) (h2 : n ≤ 1024) : NOk (rootS n) 1 := by
  refine ⟨keep_root h, good_tie (good_make (good_new n 0) 2) 1, ?_, fun x hx => ?_, Nat.zero_le _, fun k => ?_, fun d hd => ?_⟩
  · show (tieT (makeT (List.replicate n none) 2) 1).length ≤ 1024
    rw [tie_len, make_len, List.length_replicate]
    exact h2
  · have : x ∈ ([] : List Nm) := hx
    cases this
  · show 0 ≤ (if k = 1 then (1 : Int) else 0) ∧ (if k = 1 then (1 : Int) else 0) ≤ 1024
    split <;> decide
  · have hk := (root_all h).2.2
    rw [hk] at hd
    have e : d = 1 := by
      by_cases e : d = 1
      · exact e
      · rw [if_neg e] at hd; cases hd
    subst e
    refine .inr ?_
    show kdI (rootS n).T 1 = 2
    rw [hk, if_pos rfl]
theorem mk_dirs (W : World) : (Instr.makeMap 95 none).run Tryz.prog W = .ok (.map (some W.heap.size)) (W.alloc (.map #[] 0)) := by kernel_rfl
set_option maxRecDepth 20000 in
set_option maxHeartbeats 4000000 in
theorem rootAlone_any {w : World} {t nb m : Nat} {X : Nat → Prop} (h1 : 1 ≤ m) (htab : TAt w t X (List.replicate m none) nb) (hX : ∀ k, X k → k < w.heap.size) : Calls Tryz.prog 28 #[.pointer (some ⟨t, 0, none⟩)] w fun e w' => ∃ q, e = .returned (.pointer (some ⟨q, 0, none⟩)) ∧ Hid (w.heap.size ≤ q ∧ NdAt w' q (Fresh w X) (rootS m) nb ∧ GrownS w w' (Fresh w X)) := by
  have hmk := mk_dirs
  obtain ⟨W1, hW1⟩ : ∃ W1, W1 = w.alloc (.map #[] 0) := ⟨_, rfl⟩
  obtain ⟨W2, hW2⟩ : ∃ W2, W2 = W1.alloc (.cells #[.pointer (some ⟨t, 0, none⟩), .map (some w.heap.size)] 97) := ⟨_, rfl⟩
  have hb1 : Below w.heap.size w W1 := by rw [hW1]; exact (Below.refl _ w).alloc (Nat.le_refl _) _
  have hb2 : Below W1.heap.size W1 W2 := by rw [hW2]; exact (Below.refl _ W1).alloc (Nat.le_refl _) _
  have hs1 : W1.heap.size = w.heap.size + 1 := by rw [hW1]; simp
  have hs2 : W2.heap.size = w.heap.size + 2 := by rw [hW2]; simp [hs1]
  have hb12 : Below w.heap.size w W2 := hb1.trans (hb2.mono hb1.size)
  have hmap : MapV W2 3 w.heap.size (.map []) := mapV_grownS (S := fun _ => False) (by rw [hW1]; exact World.ownsMap_made (H := Value) w Tryz.prog 3 itself) (grownS_of_below hb2) (fun e => e)
  have hblk : Blk W2 W1.heap.size 97 #[.pointer (some ⟨t, 0, none⟩), .map (some w.heap.size)] := by rw [hW2]; exact Blk.new _ _ _
  have HG : Hid (GAt W2 W1.heap.size (Fresh w X) (List.replicate m none) [] (fun _ => 0) (fun _ => False) nb) := hide ⟨t, w.heap.size, fun _ => 0, X, ⟨hblk, htab.below hb12, fun k hk => by have := hX k hk; omega, fun h => by have := hX _ h; omega, fun h => by have := hX _ h; omega, ⟨.map [], hmap, fun d hd => hd.elim, fun d _ => rfl⟩, fun d hd => hd.elim, fun d e hd => hd.elim, fun d hd => hd.elim⟩, ⟨.inr hb1.size, .inr (Nat.le_refl _), fun d hd => hd.elim, fun k hk => .inl hk⟩⟩
  have HN2 : Hid (∀ k, W2.heap.size ≤ k → Fresh w X k) := hide (fun k hk => .inr (by omega))
  have HGR : Hid (GrownS w W2 (Fresh w X)) := hide (grownS_of_below hb12)
  obtain ⟨q, hq⟩ : ∃ q, q = W1.heap.size := ⟨_, rfl⟩
  have HQ : Hid (w.heap.size ≤ q) := hide (by rw [hq]; exact hb1.size)
  rw [← hq] at HG
  have HQ1 : Hid (w.heap.size + 1 = q) := hide (by rw [hq, hs1])
  obtain ⟨t1, X1, c0, htab1, hX1, hturn⟩ := (unhide HG).tbl (unhide HN2)
  have HMK := hide (tmake_any htab1 2 hX1)
  have HTU := hide hturn
  obtain ⟨r1, r2, r3⟩ := root_all h1
  have HR3 := hide r3
  rw [r1, r2] at HMK
  have HW2 : Hid (W2 = (w.alloc (.map #[] 0)).alloc (.cells #[.pointer (some ⟨t, 0, none⟩), .map (some w.heap.size)] 97)) := hide (by rw [hW2, hW1])
  clear hW1 hW2 hb1 hb2 hs1 hs2 hb12 hmap hblk htab hX htab1 hX1 hturn r1 r2 r3 hq
  go_enter Tryz.func28, Tryz.ntmps28
  go_upto_region 2 with fail
  rw [← unhide HW2]
  first | rw [unhide HQ1] | skip
  go_wp2_with fail
  refine (unhide HMK).mono ?_
  rintro e w3 ⟨rfl, k1, k2⟩
  have HG3 := hide (unhide HTU w3 _ k1 k2)
  have HN3 : Hid (∀ k, w3.heap.size ≤ k → Fresh w X k) := hide (fun k hk => unhide HN2 k (Nat.le_trans (unhide HG3).2.size hk))
  clear k1 k2 HMK HTU c0
  obtain ⟨t2, X2, c0, htab2, hX2, hturn2⟩ := (unhide HG3).1.tbl (unhide HN3)
  have HTI := hide (ttie_any htab2 1 (by decide) (fun k x hx => Nat.le_trans ((good_make (good_new m 0) 2) k x hx).2.1 (by decide)))
  have HTU2 := hide hturn2
  clear htab2 hX2 hturn2
  go_wp2_with fail
  refine (unhide HTI).mono ?_
  rintro e w4 ⟨rfl, k1, k2⟩
  have HG4 := hide (unhide HTU2 w4 _ k1 k2)
  have HN4 : Hid (∀ k, w4.heap.size ≤ k → Fresh w X k) := hide (fun k hk => unhide HN3 k (Nat.le_trans (unhide HG4).2.size hk))
  clear k1 k2 HTI HTU2 c0
  have HOP := hide (open_any (unhide HG4).1 (unhide HN4) 1 1 (by decide) (fun y hy => by cases hy))
  go_wp2_with fail
  refine (unhide HOP).mono ?_
  rintro e w5 ⟨rfl, HX⟩
  have HND : Hid (NdAt w5 q (Fresh w X) (rootS m) nb) := hide (GAt.toN (L := []) (par := parU (fun _ => 0) 1 1) (unhide HX).1 (fun d => by
    have := unhide HR3 d
    constructor
    · rintro (h | h)
      · subst h
        exact this
      · exact h.elim
    · intro h
      by_cases e : d = 1
      · exact .inl e
      · have h2 : kdI (rootS m).T d = 2 := h
        rw [this, if_neg e] at h2
        cases h2))
  go_wp2_with fail
  go_ret
  exact ⟨q, rfl, hide ⟨unhide HQ, unhide HND, (((unhide HGR).trans (unhide HG3).2).trans (unhide HG4).2).trans (unhide HX).2⟩⟩
/-- What New leaves. -/
def Newed (w w' : World) (f q : Nat) (m nb : Nat) (B : Bas) : Prop := ∃ Y, FX w' f q Y (rootS m) nb 1 B ∧ (∀ k, Y k → w.heap.size ≤ k) ∧ w.heap.size ≤ f ∧ Below w.heap.size w w'
set_option maxRecDepth 20000 in
set_option maxHeartbeats 1000000 in
theorem nnew_any (m b : Nat) (w : World) {B : Bas} (E : EnvB w B) (h1 : 1 ≤ m) (h2 : m ≤ 1024) (h3 : 1 ≤ b) (h4 : b ≤ 4096) : Calls Tryz.prog 8 #[.int .i64 (m : Int), .int .i64 (b : Int)] w fun e w' => ∃ f q, e = .returned (.tuple #[.pointer (some ⟨f, 0, none⟩), .int .i64 0]) ∧ Hid (Newed w w' f q m b B) := by
  have HT := hide (tnew_any m b w h1 h2 h3 h4)
  have HE := hide E
  have HOK := hide (ok_root h1 h2)
  go_enter Tryz.func8, Tryz.ntmps8
  go_wp2_with fail
  refine (unhide HT).mono ?_
  rintro e w1 ⟨t, rfl, HX⟩
  have HRA := hide (rootAlone_any (X := fun k => w.heap.size ≤ k ∧ k < w1.heap.size) h1 ((unhide HX).1.mono (fun k hk hx => ⟨hx, hk⟩)) (fun k hk => hk.2))
  go_wp2_with fail
  refine (unhide HRA).mono ?_
  rintro e w2 ⟨q, rfl, HY⟩
  have hgr := (unhide HY).2.2
  have hnd := (unhide HY).2.1
  have hb2 : Below w2.heap.size w2 (w2.alloc (.cells #[.pointer (some ⟨q, 0, none⟩)] 76)) := (Below.refl _ w2).alloc (Nat.le_refl _) _
  have hz : ∀ k, Fresh w1 (fun k => w.heap.size ≤ k ∧ k < w1.heap.size) k → w.heap.size ≤ k := fun k hk => hk.elim (fun h => h.1) (fun h => Nat.le_trans (unhide HX).2.size h)
  have hbel : Below w.heap.size w w2 := (unhide HX).2.trans (hgr.below (unhide HX).2.size hz)
  have hblk := Blk.new w2 76 #[.pointer (some ⟨q, 0, none⟩)]
  have hs : (w2.alloc (.cells #[.pointer (some ⟨q, 0, none⟩)] 76)).heap.size = w2.heap.size + 1 := by simp
  have hnd2 : NdAt w2 q (fun k => w.heap.size ≤ k ∧ k ≠ w2.heap.size) (rootS m) b := hnd.mono (fun k hk hy => ⟨hz k hy, by omega⟩)
  have HN : Hid (Newed w (w2.alloc (.cells #[.pointer (some ⟨q, 0, none⟩)] 76)) w2.heap.size q m b B) := hide ⟨fun k => w.heap.size ≤ k ∧ k ≠ w2.heap.size, ⟨⟨hnd2.below hb2, unhide HOK, ((unhide HE).below hbel).below hb2, fun k hk => (unhide HE).le k hk.1⟩, hblk, fun h => h.2 rfl, fun k hk => ⟨by have := hbel.size; omega, by omega⟩⟩, fun k hk => hk.1, hbel.size, hbel.trans (hb2.mono hbel.size)⟩
  clear hnd2
  clear hgr hnd hb2 hz hbel hblk hs
  go_wp2_with fail
  go_ret2
  exact ⟨_, q, rfl, HN⟩

end Go.Proofs.YtnpeiibecihleaaGreatDoor

/- clear; Cut. -/
namespace Go.Proofs.YtnpeiibecihleaaGreatDoor
open Go.RowKit Go.Maps

/-- What clear leaves. -/
def ClrL (w w' : World) (p : Nat) (L : Lay) (T : TB) (i : Nat) (x : Nd) (o n : Nat) : Prop :=
  ∃ l x', TL w' p { L with pf := updF L.pf i (L.pf i), l := l } (T.set i (some x')) ∧ l.length = L.l.length ∧ GrownS w w' (fun k => k = L.gs) ∧ x' = xwr x o (zerosL n)
theorem zerosL_get (n j : Nat) : (zerosL n).getD j 0 = 0 := by
  unfold zerosL
  rw [List.getD_eq_getElem?_getD, List.getElem?_replicate]
  split <;> rfl
set_option maxRecDepth 20000 in
set_option maxHeartbeats 1000000 in
theorem clear_any {w : World} {p : Nat} {L : Lay} {T : TB} (H : TL w p L T) {i : Nat} {x : Nd} (hi : T[i]? = some (some x)) (part fr : Nat) (hp : part ≤ 1000) (hf : fr < 64) :
    Calls Tryz.prog 122 #[.pointer (some ⟨p, 0, none⟩), .pointer (some ⟨L.q i, 0, none⟩), .int .i64 (part : Int), .int .i64 (fr : Int)] w fun e w' => e = .returned (.tuple #[]) ∧ Hid (ClrL w w' p L T i x (64 * part + fr) (64 - fr)) := by
  obtain ⟨D, hD, hR⟩ := (H.node i x hi).own
  have cm : w.cell? ⟨L.q i, 4, none⟩ = some (.map (some (L.m i))) := (H.node i x hi).blk.cell 4 rfl
  have cs : w.cell? ⟨p, 1, none⟩ = some (.pointer (some ⟨L.s, 0, none⟩)) := H.tab.cell 1 rfl
  have hbyt := H.byte i x hi
  have hkey := keyI (a := (part : Int)) (by simp [Lit.wf, IntKind.min, IntKind.max, IntKind.signed, IntKind.bits]; omega)
  have hh := hR.has (part : Int)
  rw [show ((part : Int)).toNat = part by omega] at hh
  have hzl : (zerosL (64 - fr)).length = 64 - fr := by simp [zerosL]
  cases hc : L.pf i part with
  | none =>
    have hh2 : Maps.has D (.int .i64 (part : Int)) = false := by rw [hh]; unfold isS; rw [hc]; simp
    have HE : Hid (ClrL w w p L T i x (64 * part + fr) (64 - fr)) := hide (by
      refine ⟨L.l, x, by rw [set_self hi, updF_self]; exact H, rfl, grownS_of_below (Below.refl _ _), ?_⟩
      unfold xwr
      cases x with
      | mk kind names users size byt has =>
        congr 1
        funext j
        dsimp only
        split
        · rename_i hj
          rw [zerosL_get]
          have h2 := hbyt j
          dsimp only at h2
          rw [h2]
          unfold byteOf
          rw [show j / 64 = part by omega, hc]
        · rfl)
    obtain ⟨m, hm⟩ : ∃ m, m = L.m i := ⟨_, rfl⟩
    obtain ⟨q, hq⟩ : ∃ q, q = L.q i := ⟨_, rfl⟩
    rw [← hm] at hD cm
    rw [← hq] at cm ⊢
    have HD := hide hD
    have HK := hide hkey
    have HH := hide hh2
    clear hbyt H hi hR hh hm hq hc hD hkey hh2 hzl
    go_enter Tryz.func122, Tryz.ntmps122
    go_wp2_with (first
      | (at_lookup; refine wpList_lookup_own_ok_int _ rfl _ _ 156 rfl 3 3 .i64 lawI Tryz.underlying156 Tryz.underlying3 (zeroI _) m _ _ rfl (unhide HD) _ _ rfl (unhide HK) ?_; intro c hat hwc; rw [unhide HH]; have HC := hide hat; clear hat)
      | go_in)
    refine bodyPost_end (res0 rfl _ _) rfl ?_
    exact ⟨rfl, HE⟩
  | some b =>
    have hh2 : Maps.has D (.int .i64 (part : Int)) = true := by rw [hh]; unfold isS; rw [hc]; simp
    have hat0 := hR.at' part b hc (.lit (.int .i64 0))
    obtain ⟨y, hy, hyn⟩ := H.part i x hi part b hc
    have hbl := (List.getElem?_eq_some_iff.1 hy).1
    have hmx := H.store.wf.max
    have HZ : Hid (∀ W, Below w.heap.size w W → Calls Tryz.prog 149 #[.int .i64 (IntKind.i64.wrap (64 - (fr : Int)))] W fun e w' => e = .returned (.string (BA (zerosL (64 - fr)))) ∧ w'.cell? ⟨p, 1, none⟩ = some (.pointer (some ⟨L.s, 0, none⟩)) ∧ Hid (Below w.heap.size w w')) := hide (fun W hb => by
      have := zeros_any (64 - fr) W (by omega)
      rw [show (((64 - fr : Nat)) : Int) = IntKind.i64.wrap (64 - (fr : Int)) by rw [IntKind.wrap_i64]; omega] at this
      refine this.mono ?_
      rintro e w' ⟨h1, h2⟩
      have h3 := hb.trans (h2.mono hb.size)
      exact ⟨h1, (h3.cell (p := ⟨p, 1, none⟩) H.tab.lt).trans cs, hide h3⟩)
    have HW : Hid (∀ W, Below w.heap.size w W → Calls Tryz.prog 148 #[.pointer (some ⟨L.s, 0, none⟩), .int .i64 ((b : Int) + 1), .int .i64 (fr : Int), .string (BA (zerosL (64 - fr)))] W fun e w' => ∃ E : Int, e = .returned (.int .i64 E) ∧ w'.cell? ⟨p, 1, none⟩ = some (.pointer (some ⟨L.s, 0, none⟩)) ∧ Hid (ClrL w w' p L T i x (64 * part + fr) (64 - fr))) := hide (fun W hb => by
      have HB : TL W p L T := H.grownS (S := fun _ => False) (grownS_of_below hb) (H.lt.mono (fun _ _ e => e))
      refine (write_any W L.s L.gs L.hs L.l ((b : Int) + 1) (fr : Int) (zerosL (64 - fr)) HB.store (by omega) (by omega)).mono ?_
      rintro e w' ⟨h1, h2, h3⟩
      have hw : writeL L.l ((b : Int) + 1) (fr : Int) (zerosL (64 - fr)) = L.l.set b (putAt y fr (zerosL (64 - fr))) := by
        unfold writeL
        rw [tkn_of hy, show (!y.isEmpty) = true by cases y with | nil => exact absurd rfl hyn | cons _ _ => rfl, show inB (fr : Int) (((zerosL (64 - fr)).length : Nat) : Int) = true by rw [hzl]; simp [inB]; omega, show ((b : Int) + 1 - 1).toNat = b by omega]
        simp only [Bool.and_self, if_true]
        rw [List.getD_eq_getElem?_getD, hy]
        rfl
      rw [hw] at h2
      have t2 := HB.wrote hi hc hy (by rw [hzl]; omega) h3 h2
      exact ⟨_, h1, t2.tab.cell 1 rfl, hide ⟨_, _, t2, by simp, (grownS_of_below hb).trans h3, rfl⟩⟩)
    obtain ⟨m, hm⟩ : ∃ m, m = L.m i := ⟨_, rfl⟩
    obtain ⟨q, hq⟩ : ∃ q, q = L.q i := ⟨_, rfl⟩
    obtain ⟨s, hs⟩ : ∃ s, s = L.s := ⟨_, rfl⟩
    rw [← hm] at hD cm
    rw [← hq] at cm ⊢
    rw [← hs] at cs HZ HW
    have HD := hide hD
    have HK := hide hkey
    have HH := hide hh2
    have HA := hide hat0
    clear hbyt H hi hR hh hm hq hs hc hD hkey hh2 hat0 hy hyn hzl
    go_enter Tryz.func122, Tryz.ntmps122
    go_wp2_with (first
      | (at_lookup; refine wpList_lookup_own_ok_int _ rfl _ _ 156 rfl 3 3 .i64 lawI Tryz.underlying156 Tryz.underlying3 (zeroI _) m _ _ rfl (unhide HD) _ _ rfl (unhide HK) ?_; intro c hat hwc; rw [unhide HH]; obtain rfl : c = (b : Int) + 1 := (by rw [unhide HA] at hat; injection hat with hat; injection hat with _ hat; exact hat.symm); clear hat hwc)
      | fail)
    go_region_held3 (fun w' => w'.cell? ⟨p, 1, none⟩ = some (.pointer (some ⟨s, 0, none⟩))) (go_keep) (first
      | (go_at_call 149; refine (unhide HZ _ (by first | exact Below.refl _ _ | exact below_drew _ _)).mono ?_; rintro e wa ⟨rfl, a0, HA2⟩)
      | (go_at_call 148; refine (unhide HW _ (by first | exact (unhide HA2) | exact (unhide HA2).trans ((below_drew _ _).mono (unhide HA2).size))).mono ?_; rintro e wb ⟨E, rfl, b0, HB2⟩))
    go_wp2
    refine bodyPost_end (res0 rfl _ _) rfl ?_
    exact ⟨rfl, HB2⟩

theorem cut_eqA (x : Nd) (s : Nat) (h : s % 64 = 0) : { xkeep x (fun j => decide (j < s / 64)) with size := s } = cutN x s := by
  unfold xkeep cutN
  dsimp only
  congr 1
  · funext j
    by_cases h1 : j < s
    · simp [h1, show j / 64 < s / 64 by omega]
    · simp [h1, show ¬ j / 64 < s / 64 by omega]
  · funext j
    by_cases h1 : 64 * j < s
    · simp [h1, show j < s / 64 by omega]
    · simp [h1, show ¬ j < s / 64 by omega]
theorem cut_eqB (x : Nd) (s : Nat) (h : 0 < s % 64) : { xwr (xkeep x (fun j => decide (j < s / 64 + 1))) (64 * (s / 64) + s % 64) (zerosL (64 - s % 64)) with size := s } = cutN x s := by
  unfold xwr xkeep cutN
  have hl : (zerosL (64 - s % 64)).length = 64 - s % 64 := by simp [zerosL]
  dsimp only
  congr 1
  · funext j
    rw [hl, zerosL_get, show 64 * (s / 64) + s % 64 = s by omega]
    by_cases h1 : j < s
    · rw [if_neg (by omega), if_pos h1]
      simp [show j / 64 < s / 64 + 1 by omega]
    · rw [if_neg h1]
      by_cases h2 : j / 64 < s / 64 + 1
      · rw [if_pos (by omega)]
      · rw [if_neg (by omega)]
        simp [h2]
  · funext j
    by_cases h1 : 64 * j < s
    · simp [h1, show j < s / 64 + 1 by omega]
    · simp [h1, show ¬ j < s / 64 + 1 by omega]
set_option maxRecDepth 20000 in
theorem tcut_nil (i s : Int) (w : World) : Calls Tryz.prog 77 #[.pointer none, .int .i64 i, .int .i64 s] w fun e w' => e = .returned (.int .i64 2) ∧ w' = w := by
  go_enter Tryz.func77, Tryz.ntmps77
  go_wp2_with fail
  refine (tfind_nil i w).mono ?_
  rintro e w1 ⟨rfl, hw1⟩
  rw [show w1 = w from hw1]
  clear hw1
  go_wp2
  go_ret
  exact ⟨rfl, rfl⟩
set_option maxRecDepth 20000 in
set_option maxHeartbeats 1000000 in
theorem tcut_any {w : World} {p nb : Nat} {X : Nat → Prop} {T : TB} (H : TAt w p X T nb) (i s : Int) (hb : -9223372036854775808 ≤ i ∧ i ≤ 9223372036854775807) : Calls Tryz.prog 77 #[.pointer (some ⟨p, 0, none⟩), .int .i64 i, .int .i64 s] w fun e w' => e = .returned (.int .i64 (cutE T i s)) ∧ TAt w' p X (cutT T i s) nb ∧ GrownS w w' X := by
  have HH : Hid (TAt w p X T nb ∧ GrownS w w X) := hide ⟨H, grownS_of_below (Below.refl _ _)⟩
  obtain ⟨L, HL, hin, hnb⟩ := H
  unfold cutE cutT
  cases hx : ndAt T i with
  | none =>
    have HF := hide (tfind_none HL hx hb)
    clear HL hx hin
    go_enter Tryz.func77, Tryz.ntmps77
    go_wp2_with fail
    refine (unhide HF).mono ?_
    rintro e w1 ⟨rfl, hw1⟩
    rw [show w1 = w from hw1]
    clear hw1
    go_wp2
    go_ret
    exact ⟨rfl, unhide HH⟩
  | some x =>
    obtain ⟨k, rfl, hk, _⟩ := ndAt_some hx
    rw [plc_of]
    have HF := hide (tfind_some HL hk)
    dsimp only
    by_cases h1 : s < 0
    · rw [if_pos h1, if_pos (.inl h1)]
      obtain ⟨q, hq⟩ : ∃ q, q = L.q k := ⟨_, rfl⟩
      rw [← hq] at HF
      clear HL hx hin hq hk
      go_enter Tryz.func77, Tryz.ntmps77
      go_wp2_with fail
      refine (unhide HF).mono ?_
      rintro e w1 ⟨rfl, hw1⟩
      rw [show w1 = w from hw1]
      clear hw1
      go_wp2
      go_ret
      exact ⟨rfl, unhide HH⟩
    · by_cases h2 : 4096 < s
      · rw [if_neg h1, if_pos h2, if_pos (.inr h2)]
        obtain ⟨q, hq⟩ : ∃ q, q = L.q k := ⟨_, rfl⟩
        rw [← hq] at HF
        clear HL hx hin hq hk
        go_enter Tryz.func77, Tryz.ntmps77
        go_wp2_with fail
        refine (unhide HF).mono ?_
        rintro e w1 ⟨rfl, hw1⟩
        rw [show w1 = w from hw1]
        clear hw1
        go_wp2
        go_ret
        exact ⟨rfl, unhide HH⟩
      · rw [if_neg h1, if_neg h2, if_neg (by omega)]
        obtain ⟨s', rfl⟩ : ∃ s' : Nat, s = s' := ⟨s.toNat, by omega⟩
        rw [show ((s' : Int)).toNat = s' by omega]
        have HPL := hide (place_any s' w (by omega))
        have hsub : ∀ w1, GrownS w w1 (fun j => j = L.m k ∨ j = L.gs ∨ j = L.hs) → GrownS w w1 X := fun w1 h => h.mono (fun j _ e => by rcases e with e | e | e; rw [e]; exact (hin.each k x hk).2; rw [e]; exact hin.gs; rw [e]; exact hin.hs)
        by_cases h0 : s' % 64 = 0
        · have HG := hide (giveFrom_any HL hk (s' / 64))
          have HE : Hid (∀ w1, (∃ pf l, TL w1 p { L with pf := updF L.pf k pf, l := l } (T.set k (some (xkeep x (fun j => decide (j < s' / 64))))) ∧ l.length = L.l.length ∧ GrownS w w1 (fun j => j = L.m k ∨ j = L.gs ∨ j = L.hs)) →
              ((∃ v, w1.cell? ⟨L.q k, 3, none⟩ = some v) ∧ w1.frozen? ⟨L.q k, 3, none⟩ = false) ∧ Hid (TAt (w1.setCell ⟨L.q k, 3, none⟩ (.int .i64 (s' : Int))) p X (T.set k (some (cutN x s'))) nb ∧ GrownS w (w1.setCell ⟨L.q k, 3, none⟩ (.int .i64 (s' : Int))) X)) := hide (fun w1 ⟨pf, l, t1, t2, t3⟩ => by
            have hbk := (t1.node k _ (set_same hk)).blk
            have hct := t1.cellTurn (nb := nb) (hin.step hk _ _ _) (by show l.length = nb; omega) (set_same hk) (c := 3) (v := .int .i64 (s' : Int)) (x' := cutN x s') (by
              rw [← cut_eqA x s' h0]
              exact hbk.set 3 _) (by rw [← cut_eqA x s' h0]) (by rw [← cut_eqA x s' h0])
            rw [List.set_set] at hct
            exact ⟨⟨⟨_, hbk.cell 3 rfl⟩, hbk.frozen 3⟩, hide ⟨hct.1, (hsub w1 t3).trans hct.2⟩⟩)
          obtain ⟨PX, hPX⟩ : ∃ P : World → Prop, P = fun w1 => ∃ pf l, TL w1 p { L with pf := updF L.pf k pf, l := l } (T.set k (some (xkeep x (fun j => decide (j < s' / 64))))) ∧ l.length = L.l.length ∧ GrownS w w1 (fun j => j = L.m k ∨ j = L.gs ∨ j = L.hs) := ⟨_, rfl⟩
          replace HG : Hid (Calls Tryz.prog 121 #[.pointer (some ⟨p, 0, none⟩), .pointer (some ⟨L.q k, 0, none⟩), .int .i64 ((s' / 64 : Nat) : Int)] w fun e w' => e = .returned (.tuple #[]) ∧ PX w') := hide (by rw [hPX]; exact unhide HG)
          replace HE : Hid (∀ w1, PX w1 → ((∃ v, w1.cell? ⟨L.q k, 3, none⟩ = some v) ∧ w1.frozen? ⟨L.q k, 3, none⟩ = false) ∧ Hid (TAt (w1.setCell ⟨L.q k, 3, none⟩ (.int .i64 (s' : Int))) p X (T.set k (some (cutN x s'))) nb ∧ GrownS w (w1.setCell ⟨L.q k, 3, none⟩ (.int .i64 (s' : Int))) X)) := hide (by rw [hPX]; exact unhide HE)
          obtain ⟨q, hq⟩ : ∃ q, q = L.q k := ⟨_, rfl⟩
          rw [← hq] at HF HG HE
          obtain ⟨pt, hpt⟩ : ∃ pt, pt = s' / 64 := ⟨_, rfl⟩
          rw [h0, ← hpt] at HPL
          rw [← hpt] at HG
          clear HL hx hin hq hk hPX hsub hpt h0 HH
          go_enter Tryz.func77, Tryz.ntmps77
          go_wp2_with fail
          refine (unhide HF).mono ?_
          rintro e w1 ⟨rfl, hw1⟩
          rw [show w1 = w from hw1]
          clear hw1
          go_wp2_with fail
          refine (unhide HPL).mono ?_
          rintro e w1 ⟨rfl, hw1⟩
          rw [show w1 = w from hw1]
          clear hw1
          go_wp2_with fail
          refine (unhide HG).mono ?_
          rintro e w1 ⟨rfl, h3⟩
          obtain ⟨⟨⟨v, c1⟩, f1⟩, HX⟩ := unhide HE w1 h3
          clear h3 HE HG
          go_wp2
          go_ret
          exact ⟨rfl, unhide HX⟩
        · have HG := hide (giveFrom_any HL hk (s' / 64 + 1))
          have HE : Hid (∀ w1, (∃ pf l, TL w1 p { L with pf := updF L.pf k pf, l := l } (T.set k (some (xkeep x (fun j => decide (j < s' / 64 + 1))))) ∧ l.length = L.l.length ∧ GrownS w w1 (fun j => j = L.m k ∨ j = L.gs ∨ j = L.hs)) →
              Calls Tryz.prog 122 #[.pointer (some ⟨p, 0, none⟩), .pointer (some ⟨L.q k, 0, none⟩), .int .i64 ((s' / 64 : Nat) : Int), .int .i64 ((s' % 64 : Nat) : Int)] w1 fun e w2 => e = .returned (.tuple #[]) ∧
              ((∃ v, w2.cell? ⟨L.q k, 3, none⟩ = some v) ∧ w2.frozen? ⟨L.q k, 3, none⟩ = false) ∧ Hid (TAt (w2.setCell ⟨L.q k, 3, none⟩ (.int .i64 (s' : Int))) p X (T.set k (some (cutN x s'))) nb ∧ GrownS w (w2.setCell ⟨L.q k, 3, none⟩ (.int .i64 (s' : Int))) X)) := hide (fun w1 ⟨pf, l, t1, t2, t3⟩ => by
            refine (clear_any t1 (set_same hk) (s' / 64) (s' % 64) (by omega) (by omega)).mono ?_
            rintro e w2 ⟨h3, l2, x2, u1, u2, u3, u4⟩
            subst u4
            rw [List.set_set] at u1
            have u2 : l2.length = l.length := u2
            have hbk := (u1.node k _ (set_same hk)).blk
            have hct := u1.cellTurn (nb := nb) (hin.step hk _ _ _) (by show l2.length = nb; omega) (set_same hk) (c := 3) (v := .int .i64 (s' : Int)) (x' := cutN x s') (by
              rw [← cut_eqB x s' (by omega)]
              exact hbk.set 3 _) (by rw [← cut_eqB x s' (by omega)]) (by rw [← cut_eqB x s' (by omega)])
            rw [List.set_set] at hct
            exact ⟨h3, ⟨⟨_, hbk.cell 3 rfl⟩, hbk.frozen 3⟩, hide ⟨hct.1, ((hsub w1 t3).trans (u3.mono (fun j _ e => by rw [show j = L.gs from e]; exact hin.gs))).trans hct.2⟩⟩)
          obtain ⟨PX, hPX⟩ : ∃ P : World → Prop, P = fun w1 => ∃ pf l, TL w1 p { L with pf := updF L.pf k pf, l := l } (T.set k (some (xkeep x (fun j => decide (j < s' / 64 + 1))))) ∧ l.length = L.l.length ∧ GrownS w w1 (fun j => j = L.m k ∨ j = L.gs ∨ j = L.hs) := ⟨_, rfl⟩
          replace HG : Hid (Calls Tryz.prog 121 #[.pointer (some ⟨p, 0, none⟩), .pointer (some ⟨L.q k, 0, none⟩), .int .i64 ((s' / 64 + 1 : Nat) : Int)] w fun e w' => e = .returned (.tuple #[]) ∧ PX w') := hide (by rw [hPX]; exact unhide HG)
          replace HE : Hid (∀ w1, PX w1 → Calls Tryz.prog 122 #[.pointer (some ⟨p, 0, none⟩), .pointer (some ⟨L.q k, 0, none⟩), .int .i64 ((s' / 64 : Nat) : Int), .int .i64 ((s' % 64 : Nat) : Int)] w1 fun e w2 => e = .returned (.tuple #[]) ∧
              ((∃ v, w2.cell? ⟨L.q k, 3, none⟩ = some v) ∧ w2.frozen? ⟨L.q k, 3, none⟩ = false) ∧ Hid (TAt (w2.setCell ⟨L.q k, 3, none⟩ (.int .i64 (s' : Int))) p X (T.set k (some (cutN x s'))) nb ∧ GrownS w (w2.setCell ⟨L.q k, 3, none⟩ (.int .i64 (s' : Int))) X)) := hide (by rw [hPX]; exact unhide HE)
          obtain ⟨q, hq⟩ : ∃ q, q = L.q k := ⟨_, rfl⟩
          rw [← hq] at HF HG HE
          obtain ⟨pt, hpt⟩ : ∃ pt, pt = s' / 64 := ⟨_, rfl⟩
          obtain ⟨fr, hfr⟩ : ∃ fr, fr = s' % 64 := ⟨_, rfl⟩
          rw [← hpt, ← hfr] at HPL HE
          rw [← hpt] at HG
          have hf0 : ((fr : Int) == 0) = false := by simp; omega
          have hptb : pt ≤ 1000 := by omega
          clear HL hx hin hq hk hPX hsub hpt hfr h0 HH
          go_enter Tryz.func77, Tryz.ntmps77
          go_wp2_with fail
          refine (unhide HF).mono ?_
          rintro e w1 ⟨rfl, hw1⟩
          rw [show w1 = w from hw1]
          clear hw1
          go_wp2_with fail
          refine (unhide HPL).mono ?_
          rintro e w1 ⟨rfl, hw1⟩
          rw [show w1 = w from hw1]
          clear hw1
          go_wp2_with fail
          refine (unhide HG).mono ?_
          rintro e w1 ⟨rfl, h3⟩
          have HC := hide (unhide HE w1 h3)
          clear h3 HE HG
          go_wp2_with fail
          refine (unhide HC).mono ?_
          rintro e w2 ⟨rfl, ⟨⟨v, c1⟩, f1⟩, HX⟩
          go_wp2
          go_ret
          exact ⟨rfl, unhide HX⟩

end Go.Proofs.YtnpeiibecihleaaGreatDoor
