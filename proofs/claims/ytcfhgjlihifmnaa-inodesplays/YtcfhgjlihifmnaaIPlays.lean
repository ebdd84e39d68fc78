/-
  InodesPlays: call by call as the document's table.
-/
import Derived.Test.YtcfhgjlihifmnaaIBoth
import Derived.Test.YtcfhgjlihifmnaaITxt
import Derived.Deep.LoopGhost
import Derived.Deep.DeepCutAuto
import Derived.Deep.CutRange
import Derived.Deep.RegionHeld3
namespace Go.Proofs.Ytcfhgjlihifmnaa
open Go.RowKit Go.Maps

set_option maxRecDepth 20000 in
set_option maxHeartbeats 8000000 in
theorem plays_walk (a b : Int) (v : Value) (L : List Op12) (w : World) (ha : I64 a) (hb : I64 b) (hl : ORow w v L) : Calls Try.prog 3 #[.agg #[.int .i64 a, .int .i64 b], v] w fun e w' => e = .returned (.bool true) ∧ Below w.heap.size w w' := by
  obtain ⟨ad, cap, rfl, hrow⟩ := hl
  have HROW := hide hrow
  clear hrow
  have HAW : Hid (∀ W, Below w.heap.size w W → Calls Try.prog 11 #[] W fun e w' => e = .returned (.bool true) ∧ Below w.heap.size w w') := hide (fun W hW => (awake_any W).mono (fun e w' ⟨h1, h2⟩ => ⟨h1, hW.trans (h2.mono hW.size)⟩))
  obtain ⟨len, hlen⟩ : ∃ len, len = L.length := ⟨_, rfl⟩
  rw [← hlen]
  have HLN := hide hlen
  clear hlen
  obtain ⟨W0, hW0⟩ : ∃ W0, W0 = w.alloc (.cells #[.int .i64 a, .int .i64 b] 22) := ⟨_, rfl⟩
  have hb0 : Below w.heap.size w W0 := by rw [hW0]; exact (Below.refl _ _).alloc (Nat.le_refl _) _
  have k0 : Blk W0 w.heap.size 22 #[.int .i64 a, .int .i64 b] := by rw [hW0]; exact Blk.new _ _ _
  by_cases hno : (a < 1 ∨ 1024 < a) ∨ b < 1 ∨ 4096 < b
  · have HN := hide (tnew_no a b W0 hno)
    have HR := hide (rnew_no a b W0 hno)
    have HA := hide (unhide HAW W0 hb0)
    rw [hW0] at HN HR HA
    clear hno hW0 hb0 k0 ha hb HAW HROW HLN
    go_enter Try.func3, Try.ntmps3
    go_wp2_with fail
    refine (unhide HN).mono ?_
    rintro e w1 ⟨rfl, hw⟩
    rw [show w1 = _ from hw]
    clear hw HN
    go_wp2_with fail
    refine (unhide HR).mono ?_
    rintro e w1 ⟨rfl, hw⟩
    rw [show w1 = _ from hw]
    clear hw HR
    go_wp2_with fail
    refine (unhide HA).mono ?_
    rintro e w1 ⟨rfl, hw⟩
    have HB := hide hw
    clear hw
    go_wp2
    go_ret
    exact ⟨rfl, unhide HB⟩
  · obtain ⟨a', rfl⟩ : ∃ a' : Nat, a = a' := ⟨a.toNat, by omega⟩
    obtain ⟨nb, rfl⟩ : ∃ b' : Nat, b = b' := ⟨b.toNat, by omega⟩
    have hnb : nb ≤ 4096 := by omega
    have HN : Hid (Calls Try.prog 9 #[.int .i64 (a' : Int), .int .i64 (nb : Int)] W0 fun e w' => ∃ p, e = .returned (.tuple #[.pointer (some ⟨p, 0, none⟩), .int .i64 0]) ∧ (w'.cell? ⟨w.heap.size, 0, none⟩ = some (.int .i64 (a' : Int)) ∧ w'.cell? ⟨w.heap.size, 1, none⟩ = some (.int .i64 (nb : Int))) ∧ Hid (TAt w' p (fun k => W0.heap.size ≤ k) (List.replicate a' none) nb ∧ Below W0.heap.size W0 w')) := hide ((tnew_any a' nb W0 (by omega) (by omega) (by omega) (by omega)).mono (by
      rintro e w' ⟨p, h1, h2⟩
      have hk := k0.below (unhide h2).2 k0.lt
      exact ⟨p, h1, ⟨hk.cell 0 rfl, hk.cell 1 rfl⟩, h2⟩))
    have HR : Hid (∀ W1 p, TAt W1 p (fun k => W0.heap.size ≤ k) (List.replicate a' none) nb ∧ Below W0.heap.size W0 W1 → Calls Try.prog 10 #[.int .i64 (a' : Int), .int .i64 (nb : Int)] W1 fun e w' => ∃ q, e = .returned (.tuple #[.pointer (some ⟨q, 0, none⟩), .int .i64 0]) ∧ Hid (BD w w' p q nb (List.replicate a' none) 0)) := hide (fun W1 p h => (rnew_any a' nb W1 (by omega) (by omega) (by omega) (by omega)).mono (by
      rintro e w' ⟨q, h1, h2⟩
      exact ⟨q, h1, hide (BD.start hnb hb0 h.1 h.2 (unhide h2).1 (unhide h2).2)⟩))
    rw [hW0] at HN
    have c0 := k0.cell 0 rfl
    have c1 := k0.cell 1 rfl
    have HNB := hide hnb
    clear hno ha hb c0 c1 k0 hb0 hnb
    go_enter Try.func3, Try.ntmps3
    go_wp2_with fail
    refine (unhide HN).mono ?_
    rintro e w1 ⟨p0, rfl, ⟨d0, d1⟩, hk⟩
    rw [← hW0] at hk
    have HR1 := hide (unhide HR w1 p0 (unhide hk))
    clear HN HR hk hW0
    go_wp2_with fail
    refine (unhide HR1).mono ?_
    rintro e w2 ⟨q0, rfl, hk⟩
    clear HR1 d0 d1
    obtain ⟨BDX, hBDX⟩ : ∃ P : World → Nat → Nat → TB → Nat → Prop, P = fun wr p q T n => BD w wr p q nb T n := ⟨_, rfl⟩
    have hL1 : ∀ wr p q T n, BDX wr p q T n → BD w wr p q nb T n := fun wr p q T n h => by rw [hBDX] at h; exact h
    have hL2 : ∀ wr p q T n, BD w wr p q nb T n → BDX wr p q T n := fun wr p q T n h => by rw [hBDX]; exact h
    have HL1 := hide hL1
    have HL2 := hide hL2
    have HS0 := hide (hL2 _ _ _ _ _ (unhide hk))
    clear hBDX hL1 hL2 hk
    go_wp2_with fail
    go_loopw [5, 7, 9] (fun s rs i wr => ∃ (j p q : Nat) (T : TB), s = .pointer (some ⟨p, 0, none⟩) ∧ rs = .pointer (some ⟨q, 0, none⟩) ∧ i = .int .i64 (j : Int) ∧ j ≤ len ∧ j ≤ 80 ∧ Hid (BDX wr p q T j)) (fun _ _ i _ => len - (intOf i).toNat)
    case atStart => exact ⟨0, _, _, _, rfl, rfl, rfl, Nat.zero_le _, Nat.zero_le _, HS0⟩
    case round =>
      clear HS0
      obtain ⟨j, p, q, T, rfl, rfl, rfl, hjl, hj80, HT⟩ := hrel
      by_cases hin : j < len ∧ j < 80
      · obtain ⟨hlt, hlt80⟩ := hin
        have h1 : (j : Int) < (len : Int) := by omega
        have h2 : (j : Int) < 80 := by omega
        have h0 : (0 : Int) ≤ (j : Int) := by omega
        obtain ⟨x, hx⟩ : ∃ x, L[j]? = some x := ⟨_, List.getElem?_eq_getElem (by have := unhide HLN; omega)⟩
        obtain ⟨⟨g', o', had, hg', hcell⟩, hok⟩ := unhide HROW j x hx
        have hBD := unhide HL1 _ _ _ _ _ (unhide HT)
        have hbel := hBD.bel
        have cc : ∀ c v, w.cell? ⟨g', c, none⟩ = some v → wr.cell? ⟨g', c, none⟩ = some v := fun c v h => (hbel.cell (p := ⟨g', c, none⟩) hg').trans h
        obtain ⟨e0, e1, e2, e3, e4⟩ := hcell
        have q0 := cc _ _ e0
        have q1 := cc _ _ e1
        have q2 := cc _ _ e2
        have q3 := cc _ _ e3
        have q4 := cc _ _ e4
        obtain ⟨W1, hW1⟩ : ∃ W1, W1 = wr.alloc (.cells #[.int .i64 x.ask, .int .i64 x.b, .int .i64 x.at', .int .i64 x.n, .string (BA x.data)] 33) := ⟨_, rfl⟩
        have HO : Hid (BO w W1 p q nb wr.heap.size x T T) := hide (hBD.op x hW1)
        have HGD := hide hBD.1
        have HOK := hide hok
        obtain ⟨ob, hob⟩ : ∃ ob, ob = wr.heap.size := ⟨_, rfl⟩
        rw [← hob] at HO
        have HB1 := hide (unhide HO).bel
        subst had
        obtain ⟨S, hS⟩ : ∃ S, S = BA x.data := ⟨_, rfl⟩
        obtain ⟨dl, hdl⟩ : ∃ dl, dl = x.data.length := ⟨_, rfl⟩
        have hSs : S.size = dl := by rw [hS, hdl]; rfl
        obtain ⟨ask, hask⟩ : ∃ ask, ask = x.ask := ⟨_, rfl⟩
        obtain ⟨ib, hib⟩ : ∃ ib, ib = x.b := ⟨_, rfl⟩
        obtain ⟨ia, hia⟩ : ∃ ia, ia = x.at' := ⟨_, rfl⟩
        obtain ⟨inn, hinn⟩ : ∃ inn, inn = x.n := ⟨_, rfl⟩
        rw [← hS, ← hask, ← hib, ← hia, ← hinn] at hW1
        rw [← hS] at q4
        rw [← hask] at q0
        rw [← hib] at q1
        rw [← hia] at q2
        rw [← hinn] at q3
        have HXI : Hid ((x.ask = ask ∧ x.b = ib ∧ x.at' = ia ∧ x.n = inn ∧ BA x.data = S) ∧ x.data.length = dl) := hide ⟨⟨hask.symm, hib.symm, hia.symm, hinn.symm, hS.symm⟩, hdl.symm⟩
        have HW1 := hide hW1
        have HOB := hide hob
        clear hx e0 e1 e2 e3 e4 hok hbel cc hBD hS hdl hask hib hia hinn hW1 HROW HLN HT hob
        by_cases hbig : (5000 : Int) < (dl : Int)
        · have HA := hide (unhide HAW W1 (unhide HB1))
          go_wp2_with fail
          rw [← unhide HW1]
          refine (unhide HA).mono ?_
          rintro e w2 ⟨rfl, hw⟩
          have HB := hide hw
          clear hw
          go_wp2
          go_ret
          exact ⟨rfl, unhide HB⟩
        · have HDL : Hid (x.data.length ≤ 5000) := hide (by have := (unhide HXI).2; omega)
          by_cases h8 : ask = 8
          · subst h8
            have HC := hide (bo_copy (unhide HO))
            clear HAW HB1 HDL
            go_wp2_with fail
            rw [← unhide HW1, ← unhide HOB]
            refine (unhide HC).mono ?_
            rintro e w2 ⟨p', rfl, H2⟩
            have HR := hide (bc_rcopy (unhide H2))
            rw [(unhide HXI).1.2.1] at HR
            clear HC H2 HO HW1 HOB q0 q1 q2 q3 q4
            go_wp2_with fail
            refine (unhide HR).mono ?_
            rintro e w3 ⟨q', rfl, d1, H3⟩
            have HC := hide (be_write (unhide H3) (unhide HGD) (unhide HOK))
            rw [(unhide HXI).1.2.1] at HC
            clear HR H3
            go_wp2_with fail
            refine (unhide HC).mono ?_
            rintro e w4 ⟨N, E, rfl, d2, H4⟩
            obtain ⟨V, hV, H5⟩ := unhide H4
            have HR := hide (be_tie H5 hV (by omega) (unhide HGD) (unhide HNB) (unhide HOK))
            rw [(unhide HXI).1.2.1] at HR
            clear HC H4 H5 hV d1
            go_wp2_with fail
            refine (unhide HR).mono ?_
            rintro e w5 ⟨E2, rfl, H6⟩
            have H7 := hide (unhide HL2 _ _ _ _ _ (show BD w w5 p' q' nb T (j + 1) from ⟨(unhide H6).1.mono (Nat.le_succ _), (unhide H6).2⟩))
            clear HR H6 d2 HL1 HL2 HXI HGD HOK
            go_wp2_with fail
            go_roundw
            case rel => exact ⟨j + 1, _, _, _, rfl, rfl, by go_num, by omega, by omega, H7⟩
            case measure => simp [intOf]; omega
          · have h8b : (ask == 8) = false := by simpa using h8
            have HD := hide (bo_do (unhide HO) (unhide HGD) (by omega) (unhide HOK) (unhide HDL))
            unfold OC at HD
            rw [(unhide HXI).1.1, (unhide HXI).1.2.1, (unhide HXI).1.2.2.1, (unhide HXI).1.2.2.2.1, (unhide HXI).1.2.2.2.2] at HD
            have HUB : Hid (usedT T ≤ nb) := hide (by obtain ⟨X, Y, hX, _⟩ := unhide HO; exact hX.tab.used)
            clear h8 HAW HB1
            go_wp2_with fail
            rw [← unhide HW1, ← unhide HOB]
            refine (unhide HD).mono ?_
            rintro e w2 ⟨N, s, E, rfl, ⟨d0, d1, d2, d3, d4⟩, HX⟩
            obtain ⟨T', hsp, H2⟩ := unhide HX
            have HP := hide (bo_plain H2 hsp (unhide HUB) (unhide HNB) (unhide HGD) (by omega) (unhide HOK) (unhide HDL))
            rw [(unhide HXI).1.1, (unhide HXI).1.2.1, (unhide HXI).1.2.2.1, (unhide HXI).1.2.2.2.1, (unhide HXI).1.2.2.2.2] at HP
            have HG2 := hide (good_do (unhide HGD) hsp)
            obtain ⟨S2, hS2⟩ : ∃ S2, S2 = BA s := ⟨_, rfl⟩
            rw [← hS2] at HP ⊢
            clear HD HX HO HUB HGD HDL HW1 HOB hsp H2 hS2 q0 q1 q2 q3 q4
            go_wp2_with fail
            refine (unhide HP).mono ?_
            rintro e w3 ⟨rfl, f1, H3⟩
            have HG := hide (bo_get (unhide H3) (unhide HG2) (unhide HOK))
            rw [(unhide HXI).1.2.1] at HG
            obtain ⟨kv, hkv⟩ : ∃ kv, kv = kindOf (ndAt T' ib) := ⟨_, rfl⟩
            obtain ⟨mv, hmv⟩ : ∃ mv, mv = namesOf (ndAt T' ib) := ⟨_, rfl⟩
            obtain ⟨sz, hsz⟩ : ∃ sz, sz = sizeOfN (ndAt T' ib) := ⟨_, rfl⟩
            obtain ⟨D, hD⟩ : ∃ D, D = BA (datO (ndAt T' ib)) := ⟨_, rfl⟩
            have hDs : D.size = sz := by rw [hD, hsz]; exact dat_len _
            rw [← hkv, ← hmv, ← hD] at HG
            have HV := hide (And.intro (And.intro hkv hmv) (And.intro hsz hD))
            clear HP H3 d0 d1 d2 d3 d4 hkv hmv hsz hD
            go_wp2_with fail
            refine (unhide HG).mono ?_
            rintro e w4 ⟨u, ad', m, c, rfl, H4⟩
            obtain ⟨W5, hW5⟩ : ∃ W5, W5 = w4.alloc (.cells #[.int .i64 (kv : Int), .int .i64 (mv : Int), .int .i64 u, .string D, .slice ad' m c] 44) := ⟨_, rfl⟩
            have H5 : Hid (BN w W5 p q nb ob x T' w4.heap.size (ndC (kv : Int) (mv : Int) u D ad' m c)) := hide ((unhide H4).bn hW5)
            obtain ⟨xb, hxb⟩ : ∃ xb, xb = w4.heap.size := ⟨_, rfl⟩
            rw [← hxb] at H5
            have HXB := hide hxb
            have HW5 := hide hW5
            have HF := hide (bn_free (unhide H5))
            have HRF := hide (bn_rfree (unhide H5) (unhide HG2) (unhide HNB))
            unfold NC at HRF
            rw [(unhide HXI).1.2.1] at HRF
            have HKK : Hid (∀ W, BN w W p q nb ob x T' xb (ndC (kv : Int) (mv : Int) u D ad' m c) → Calls Try.prog 21 #[.pointer (some ⟨p, 0, none⟩), .int .i64 ib] W fun e w' => e = .returned (.int .i64 (kv : Int)) ∧ NC w' ob xb ib (kv : Int) (mv : Int) D ∧ Hid (BN w w' p q nb ob x T' xb (ndC (kv : Int) (mv : Int) u D ad' m c))) := hide (fun W H => by
              have := bn_kind H (unhide HOK)
              rw [(unhide HXI).1.2.1, ← (unhide HV).1.1] at this
              exact this)
            have HKS : Hid (∀ W, BN w W p q nb ob x T' xb (ndC (kv : Int) (mv : Int) u D ad' m c) → Calls Try.prog 22 #[.pointer (some ⟨p, 0, none⟩), .int .i64 ib] W fun e w' => e = .returned (.int .i64 (sz : Int)) ∧ NC w' ob xb ib (kv : Int) (mv : Int) D ∧ Hid (BN w w' p q nb ob x T' xb (ndC (kv : Int) (mv : Int) u D ad' m c))) := hide (fun W H => by
              have := bn_size H (unhide HOK)
              rw [(unhide HXI).1.2.1, ← (unhide HV).2.1] at this
              exact this)
            have HKL : Hid (∀ W, BN w W p q nb ob x T' xb (ndC (kv : Int) (mv : Int) u D ad' m c) → Calls Try.prog 23 #[.pointer (some ⟨p, 0, none⟩), .int .i64 ib] W fun e w' => e = .returned (.int .i64 (mv : Int)) ∧ NC w' ob xb ib (kv : Int) (mv : Int) D ∧ Hid (BN w w' p q nb ob x T' xb (ndC (kv : Int) (mv : Int) u D ad' m c))) := hide (fun W H => by
              have := bn_links H (unhide HOK)
              rw [(unhide HXI).1.2.1, ← (unhide HV).1.2] at this
              exact this)
            have HRD : Hid (∀ W, BN w W p q nb ob x T' xb (ndC (kv : Int) (mv : Int) u D ad' m c) → Calls Try.prog 24 #[.pointer (some ⟨p, 0, none⟩), .int .i64 ib, .int .i64 0, .int .i64 4096] W fun e w' => ∃ E : Int, e = .returned (.tuple #[.string D, .int .i64 E]) ∧ w'.cell? ⟨xb, 3, none⟩ = some (.string D) ∧ Hid (BDX w' p q T' (j + 1))) := hide (fun W H => by
              have := bn_read H (unhide HG2) (unhide HNB) (unhide HOK)
              rw [(unhide HXI).1.2.1, ← (unhide HV).2.2] at this
              exact this.mono (fun e w' ⟨E, r1, r2, r3⟩ => ⟨E, r1, r2, hide (unhide HL2 _ _ _ _ _ (unhide r3))⟩))
            obtain ⟨fn, hfn⟩ : ∃ fn, fn = freeT T' := ⟨_, rfl⟩
            obtain ⟨fb, hfb⟩ : ∃ fb, fb = nb - usedT T' := ⟨_, rfl⟩
            rw [← hfn, ← hfb] at HF HRF
            clear HG H4 hW5 hxb f1 HXI HOK HV HL1 HL2 HG2 HNB hfn hfb
            go_wp2_with fail
            rw [← unhide HW5, ← unhide HXB]
            refine (unhide HF).mono ?_
            rintro e w6 ⟨rfl, hw⟩
            rw [show w6 = _ from hw]
            clear hw HF HW5 HXB H5
            go_wp2_with fail
            refine (unhide HRF).mono ?_
            rintro e w6 ⟨rfl, ⟨n1, n2, n3, n4⟩, H6⟩
            clear HRF
            go_wp2_with fail
            go_region_held3 (fun w' => w'.cell? ⟨ob, 1, none⟩ = some (.int .i64 ib) ∧ w'.cell? ⟨xb, 0, none⟩ = some (.int .i64 (kv : Int)) ∧ w'.cell? ⟨xb, 1, none⟩ = some (.int .i64 (mv : Int)) ∧ w'.cell? ⟨xb, 3, none⟩ = some (.string D)) (go_keep) (first
              | (go_at_call 21; refine (unhide HKK _ (by first | exact unhide H6 | exact (unhide H6).below (below_drew _ _))).mono ?_; rintro e wa ⟨rfl, ⟨a1, a2, a3, a4⟩, HA2⟩)
              | (go_at_call 22; refine (unhide HKS _ (by first | exact unhide HA2 | exact (unhide HA2).below (below_drew _ _))).mono ?_; rintro e wb ⟨rfl, ⟨b1, b2, b3, b4⟩, HB2⟩)
              | (go_at_call 23; refine (unhide HKL _ (by first | exact unhide HB2 | exact (unhide HB2).below (below_drew _ _))).mono ?_; rintro e wc ⟨rfl, ⟨c1, c2, c3, c4⟩, HC2⟩))
            have HR := hide (unhide HRD _ (unhide HC2))
            clear HRD HKK HKS HKL H6 HA2 HB2 HC2 n1 n2 n3 n4 a1 a2 a3 a4 b1 b2 b3 b4
            go_wp2_with fail
            refine (unhide HR).mono ?_
            rintro e w7 ⟨E2, rfl, r3, H7⟩
            clear HR c1 c2 c3 c4
            go_wp2_with fail
            go_roundw
            case rel => exact ⟨j + 1, _, _, _, rfl, rfl, by go_num, by omega, by omega, H7⟩
            case measure => simp [intOf]; omega
      · have HA := hide (unhide HAW _ (unhide HL1 _ _ _ _ _ (unhide HT)).bel)
        have HQ : Hid (¬ j < len ∨ (j < len ∧ ¬ j < 80)) := hide (by omega)
        clear HT HROW HLN HAW HL1 HL2 HNB
        rcases unhide HQ with hq | ⟨hq, hq2⟩
        · have hk1 : ¬ (j : Int) < (len : Int) := by omega
          go_wp2_with fail
          refine (unhide HA).mono ?_
          rintro e w3 ⟨rfl, b3⟩
          have HB3 := hide b3
          clear b3
          go_wp2
          go_ret
          exact ⟨rfl, unhide HB3⟩
        · have hk1 : (j : Int) < (len : Int) := by omega
          have hk2 : ¬ (j : Int) < 80 := by omega
          go_wp2_with fail
          refine (unhide HA).mono ?_
          rintro e w3 ⟨rfl, b3⟩
          have HB3 := hide b3
          clear b3
          go_wp2
          go_ret
          exact ⟨rfl, unhide HB3⟩

end Go.Proofs.Ytcfhgjlihifmnaa
