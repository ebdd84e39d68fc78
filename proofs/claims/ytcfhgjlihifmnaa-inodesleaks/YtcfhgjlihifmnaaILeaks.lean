/-
  InodesLeaks: when the last name and the last user of all nodes are gone, all nodes and blocks are free again.
-/
import Derived.Test.YtcfhgjlihifmnaaILeakS
import Derived.Deep.DeepCutAuto
import Derived.Deep.CutRange
import Derived.Deep.RegionHeld3
namespace Go.Proofs.Ytcfhgjlihifmnaa
open Go.RowKit Go.Maps

/-- What a cell of a row of numbers holds. -/
def cellI (w : World) (b k : Nat) : Nat := match w.cell? ⟨b, k, none⟩ with | some (.int _ v) => v.toNat | _ => 0
theorem cellI_of {w : World} {b k : Nat} {v : Int} (h : w.cell? ⟨b, k, none⟩ = some (.int .i64 v)) : cellI w b k = v.toNat := by
  unfold cellI
  rw [h]
set_option maxRecDepth 20000 in
set_option maxHeartbeats 8000000 in
theorem leaks_walk (v : Value) (L : List Op12) (w : World) (hl : ORow w v L) : Calls Try.prog 5 #[v] w fun e w' => e = .returned (.bool true) ∧ Below w.heap.size w w' := by
  obtain ⟨ad, cap, rfl, hrow⟩ := hl
  have HNW := hide (new_hd 5 100 w w (Below.refl _ _) (by decide) (by decide) (by decide) (by decide))
  have HROW := hide hrow
  clear hrow
  have HAW : Hid (∀ W, Below w.heap.size w W → Calls Try.prog 11 #[] W fun e w' => e = .returned (.bool true) ∧ Below w.heap.size w w') := hide (fun W hW => (awake_any W).mono (fun e w' ⟨h1, h2⟩ => ⟨h1, hW.trans (h2.mono hW.size)⟩))
  obtain ⟨len, hlen⟩ : ∃ len, len = L.length := ⟨_, rfl⟩
  rw [← hlen]
  have HLN := hide hlen
  clear hlen
  go_enter Try.func5, Try.ntmps5
  go_wp2_with fail
  refine (unhide HNW).mono ?_
  rintro e w1 ⟨p, rfl, k1, _⟩
  obtain ⟨W, hW⟩ : ∃ W, W = (w1.alloc (.cells (arr (fun _ => 0)) 55)).alloc (.cells (arr (fun _ => 0)) 55) := ⟨_, rfl⟩
  have HS0 := hide (LS.start k1.at' k1.bel hW)
  have HW := hide hW
  obtain ⟨g, hg⟩ : ∃ g, g = w1.heap.size := ⟨_, rfl⟩
  rw [← hg] at HS0
  have HG := hide hg
  clear k1 HNW hW hg
  go_wp2_with fail
  rw [show ((w1.alloc (.cells #[.int .i64 0, .int .i64 0, .int .i64 0, .int .i64 0, .int .i64 0, .int .i64 0] 55)).alloc (.cells #[.int .i64 0, .int .i64 0, .int .i64 0, .int .i64 0, .int .i64 0, .int .i64 0] 55)) = W from (unhide HW).symm, ← unhide HG]
  clear HW HG
  obtain ⟨LTX, hLTX⟩ : ∃ P : World → TB → Nat → Prop, P = fun wr T n => LT w wr p g T n := ⟨_, rfl⟩
  have hL1 : ∀ wr T n, LTX wr T n → LT w wr p g T n := fun wr T n h => by rw [hLTX] at h; exact h
  have hL2 : ∀ wr T n, LT w wr p g T n → LTX wr T n := fun wr T n h => by rw [hLTX]; exact h
  have HL1 := hide hL1
  have HL2 := hide hL2
  clear hLTX hL1 hL2
  replace HS0 := hide (unhide HL2 _ _ _ (unhide HS0))
  go_loopw [7] (fun v wr => ∃ (j : Nat) (T : TB), v = .int .i64 (j : Int) ∧ j ≤ len ∧ j ≤ 80 ∧ Hid (LTX wr T j)) (fun v _ => len - (intOf v).toNat)
  case atStart => exact ⟨0, _, rfl, Nat.zero_le _, Nat.zero_le _, HS0⟩
  case round =>
    clear HS0
    obtain ⟨j, T, rfl, hjl, hj80, HT⟩ := hrel
    by_cases hin : j < len ∧ j < 80
    · obtain ⟨hlt, hlt80⟩ := hin
      have h1 : (j : Int) < (len : Int) := by omega
      have h2 : (j : Int) < 80 := by omega
      have h0 : (0 : Int) ≤ (j : Int) := by omega
      obtain ⟨x, hx⟩ : ∃ x, L[j]? = some x := ⟨_, List.getElem?_eq_getElem (by have := unhide HLN; omega)⟩
      obtain ⟨⟨g', o', had, hg', hcell⟩, hok⟩ := unhide HROW j x hx
      have hbel := (unhide HL1 _ _ _ (unhide HT)).bel
      have cc : ∀ c v, w.cell? ⟨g', c, none⟩ = some v → wr.cell? ⟨g', c, none⟩ = some v := fun c v h => (hbel.cell (p := ⟨g', c, none⟩) hg').trans h
      obtain ⟨e0, e1, e2, e3, e4⟩ := hcell
      have q0 := cc _ _ e0
      have q1 := cc _ _ e1
      have q2 := cc _ _ e2
      have q3 := cc _ _ e3
      have q4 := cc _ _ e4
      obtain ⟨W1, hW1⟩ : ∃ W1, W1 = wr.alloc (.cells #[.int .i64 x.ask, .int .i64 x.b, .int .i64 x.at', .int .i64 x.n, .string (BA x.data)] 33) := ⟨_, rfl⟩
      have hb1 : Below wr.heap.size wr W1 := by rw [hW1]; exact (Below.refl _ _).alloc (Nat.le_refl _) _
      have HB1 := hide (hbel.trans (hb1.mono hbel.size))
      have HC1 : Hid (LTX W1 T (j + 1)) := hide (unhide HL2 _ _ _ (by
        have := LS.below (unhide HL1 _ _ _ (unhide HT)) hb1
        exact ⟨this.tab, this.gd.mono (Nat.le_succ _), this.len, this.bel, this.lo, this.hi, this.nm, this.us⟩))
      have HDO : Hid (x.data.length ≤ 5000 → Calls Try.prog 16 #[.pointer (some ⟨p, 0, none⟩), .agg #[.int .i64 x.ask, .int .i64 x.b, .int .i64 x.at', .int .i64 x.n, .string (BA x.data)]] W1 fun e w' => ∃ (N : Int) (s : ByteArray) (E : Int), e = .returned (.tuple #[.int .i64 N, .string s, .int .i64 E]) ∧ (w'.cell? ⟨wr.heap.size, 0, none⟩ = some (.int .i64 x.ask) ∧ w'.cell? ⟨wr.heap.size, 1, none⟩ = some (.int .i64 x.b)) ∧ Hid (DoX w w' p g T j x E)) := hide (fun hd => (do_ls (unhide HL1 _ _ _ (unhide HT)) (by omega) x hok hd hW1).mono (by
        rintro e w' ⟨N, s, E, h1, h2⟩
        exact ⟨N, s, E, h1, ⟨(unhide h2).1.cell 0 rfl, (unhide h2).1.cell 1 rfl⟩, hide (unhide h2).2⟩))
      subst had
      obtain ⟨S, hS⟩ : ∃ S, S = BA x.data := ⟨_, rfl⟩
      obtain ⟨dl, hdl⟩ : ∃ dl, dl = x.data.length := ⟨_, rfl⟩
      have hSs : S.size = dl := by rw [hS, hdl]; rfl
      obtain ⟨ask, hask⟩ : ∃ ask, ask = x.ask := ⟨_, rfl⟩
      obtain ⟨ib, hib⟩ : ∃ ib, ib = x.b := ⟨_, rfl⟩
      obtain ⟨ia, hia⟩ : ∃ ia, ia = x.at' := ⟨_, rfl⟩
      obtain ⟨inn, hinn⟩ : ∃ inn, inn = x.n := ⟨_, rfl⟩
      have hibb : -9223372036854775808 ≤ ib ∧ ib ≤ 9223372036854775807 := by rw [hib]; exact hok.2.1
      rw [← hS] at q4 hW1 HDO
      rw [← hdl] at HDO
      rw [← hask] at q0 hW1 HDO
      rw [← hib] at q1 hW1 HDO
      rw [← hia] at q2 hW1 HDO
      rw [← hinn] at q3 hW1 HDO
      have HXI := hide (And.intro hask hib)
      have HW1 := hide hW1
      clear hx e0 e1 e2 e3 e4 hok hbel cc hb1 hS hdl hask hib hia hinn hW1 HROW HLN
      by_cases hbig : (5000 : Int) < (dl : Int)
      · have HA := hide (unhide HAW W1 (unhide HB1))
        clear HDO HC1
        go_wp2_with fail
        rw [← unhide HW1]
        refine (unhide HA).mono ?_
        rintro e w2 ⟨rfl, hw⟩
        have HB := hide hw
        clear hw
        go_wp2
        go_ret
        exact ⟨rfl, unhide HB⟩
      · by_cases h8 : ask = 8
        · subst h8
          clear HDO
          go_wp2_with fail
          go_roundw
          case rel => exact ⟨j + 1, T, by go_num, by omega, by omega, by rw [unhide HW1] at HC1; exact HC1⟩
          case measure => simp [intOf]; omega
        · have h8b : (ask == 8) = false := by simpa using h8
          have HD := hide (unhide HDO (by omega))
          clear HDO HC1 h8
          go_wp2_with fail
          rw [← unhide HW1]
          refine (unhide HD).mono ?_
          rintro e w2 ⟨N, s, E, rfl, ⟨d0, d1⟩, HX⟩
          clear HD HB1 HW1 HAW
          go_upto_region 13 with fail
          obtain ⟨cd, hcd⟩ : ∃ cd, ((E == 0) && decide (1 ≤ ib) && decide (ib ≤ 5)) = cd := ⟨_, rfl⟩
          have HCD := hide hcd
          clear hcd
          go_cut [69] from 58 to 69 (fun v wx => v = .bool cd ∧ wx = w2)
          case first =>
            have hcd := unhide HCD
            clear HCD
            by_cases hE0 : E = 0
            · by_cases hi1 : 1 ≤ ib
              · by_cases hi5 : ib ≤ 5
                · obtain rfl : true = cd := by rw [← hcd]; simp [hE0, hi1, hi5]
                  subst hE0
                  clear hcd
                  go_wp2
                  go_meet
                  exact ⟨rfl, rfl⟩
                · obtain rfl : false = cd := by rw [← hcd]; simp [hi5]
                  subst hE0
                  clear hcd
                  go_wp2
                  go_meet
                  exact ⟨rfl, rfl⟩
              · obtain rfl : false = cd := by rw [← hcd]; simp [hi1]
                subst hE0
                clear hcd
                go_wp2
                go_meet
                exact ⟨rfl, rfl⟩
            · obtain rfl : false = cd := by rw [← hcd]; simp [hE0]
              have hEb : (E == 0) = false := by simpa using hE0
              clear hcd hE0
              go_wp2
              go_meet
              exact ⟨rfl, rfl⟩
          case rest =>
          obtain ⟨rfl, hwc⟩ := hcut
          rw [hwc]
          clear hwc
          go_upto_if 69 with fail
          go_cut [] from 69 to 103 (fun wx => Hid (∃ T', LTX wx T' (j + 1)))
          case first =>
            obtain ⟨T', hC, hLS⟩ := unhide HX
            have hlen5 := (unhide HL1 _ _ _ (unhide HT)).len
            have HU : Hid ((nmA T' = nmA T ∧ usA T' = usA T) → LTX w2 T' (j + 1)) := hide (fun h => unhide HL2 _ _ _ (by
              unfold LT
              rw [h.1, h.2]
              exact hLS))
            cases cd with
            | false =>
              have HZ : Hid (LTX w2 T' (j + 1)) := hide (unhide HU (by
                have hx2 : x.b = ib := (unhide HXI).2.symm
                have hcd := unhide HCD
                by_cases a1 : x.ask = 1
                · by_cases hE0 : E = 0
                  · obtain ⟨k, hk, hq1, hq5, _⟩ := hC.tie hE0 a1
                    exact absurd hcd (by simp; omega)
                  · exact hC.bad hE0
                · skip
                  by_cases a2 : x.ask = 2
                  · by_cases hE0 : E = 0
                    · obtain ⟨k, hk, hq1, hq5, _⟩ := hC.untie hE0 a2
                      exact absurd hcd (by simp; omega)
                    · exact hC.bad hE0
                  · skip
                    by_cases a3 : x.ask = 3
                    · by_cases hE0 : E = 0
                      · obtain ⟨k, hk, hq1, hq5, _⟩ := hC.hold hE0 a3
                        exact absurd hcd (by simp; omega)
                      · exact hC.bad hE0
                    · skip
                      by_cases a4 : x.ask = 4
                      · by_cases hE0 : E = 0
                        · obtain ⟨k, hk, hq1, hq5, _⟩ := hC.loose hE0 a4
                          exact absurd hcd (by simp; omega)
                        · exact hC.bad hE0
                      · exact hC.other a1 a2 a3 a4))
              clear hC hLS HU HX HCD
              go_wp2
              go_meet
              exact hide ⟨T', unhide HZ⟩
            | true =>
              have hE0 : E = 0 := by have := unhide HCD; simp at this; exact this.1.1
              have hi1 : ¬ ib < 1 := by have := unhide HCD; simp at this; omega
              have hi5 : ¬ 5 < ib := by have := unhide HCD; simp at this; omega
              clear HCD
              by_cases a1 : ask = 1
              · obtain ⟨k, hk, hk1, hk5, hc1, hc2⟩ := hC.tie hE0 ((unhide HXI).1.symm.trans a1)
                rw [hlen5] at hk5
                rw [← (unhide HXI).2] at hk
                have c1 : w2.cell? ⟨g, k, none⟩ = some (.int .i64 (nmA T k)) := (hLS.nm.cell k (arr_get _ (by omega)))
                have f1 : w2.frozen? ⟨g, k, none⟩ = false := hLS.nm.frozen k
                have bb := bound_nm (unhide HL1 _ _ _ (unhide HT)).gd k
                have HZ : Hid (LTX (w2.setCell ⟨g, k, none⟩ (.int .i64 (nmA T k + 1))) T' (j + 1)) := hide (unhide HL2 _ _ _ (by
                  have := hLS.setN (k := k) (by omega) (nmA T k + 1)
                  unfold LT
                  rw [hc1, hc2]
                  exact this))
                obtain ⟨nv, hnv⟩ : ∃ nv, nv = nmA T k := ⟨_, rfl⟩
                rw [← hnv] at c1 bb HZ
                have hkI : (k : Int) < 6 := by omega
                have hb1 : 1 ≤ (k : Int) := by omega
                have hb5 : (k : Int) ≤ 5 := by omega
                have hb0 : (0 : Int) ≤ (k : Int) := by omega
                rw [hk] at d1
                rw [a1] at d0
                clear hC hLS HU hc1 hc2 hnv hk HX hE0 h8b hi1 hi5 hibb a1
                go_wp2
                go_meet
                exact hide ⟨T', unhide HZ⟩
              · have b1 : (ask == 1) = false := by simpa using a1
                by_cases a2 : ask = 2
                · obtain ⟨k, hk, hk1, hk5, hc1, hc2⟩ := hC.untie hE0 ((unhide HXI).1.symm.trans a2)
                  rw [hlen5] at hk5
                  rw [← (unhide HXI).2] at hk
                  have c1 : w2.cell? ⟨g, k, none⟩ = some (.int .i64 (nmA T k)) := (hLS.nm.cell k (arr_get _ (by omega)))
                  have f1 : w2.frozen? ⟨g, k, none⟩ = false := hLS.nm.frozen k
                  have bb := bound_nm (unhide HL1 _ _ _ (unhide HT)).gd k
                  have HZ : Hid (LTX (w2.setCell ⟨g, k, none⟩ (.int .i64 (nmA T k - 1))) T' (j + 1)) := hide (unhide HL2 _ _ _ (by
                    have := hLS.setN (k := k) (by omega) (nmA T k - 1)
                    unfold LT
                    rw [hc1, hc2]
                    exact this))
                  obtain ⟨nv, hnv⟩ : ∃ nv, nv = nmA T k := ⟨_, rfl⟩
                  rw [← hnv] at c1 bb HZ
                  have hkI : (k : Int) < 6 := by omega
                  have hb1 : 1 ≤ (k : Int) := by omega
                  have hb5 : (k : Int) ≤ 5 := by omega
                  have hb0 : (0 : Int) ≤ (k : Int) := by omega
                  rw [hk] at d1
                  rw [a2] at d0
                  clear hC hLS HU hc1 hc2 hnv hk HX hE0 h8b hi1 hi5 hibb a2
                  go_wp2
                  go_meet
                  exact hide ⟨T', unhide HZ⟩
                · have b2 : (ask == 2) = false := by simpa using a2
                  by_cases a3 : ask = 3
                  · obtain ⟨k, hk, hk1, hk5, hc1, hc2⟩ := hC.hold hE0 ((unhide HXI).1.symm.trans a3)
                    rw [hlen5] at hk5
                    rw [← (unhide HXI).2] at hk
                    have c1 : w2.cell? ⟨g + 1, k, none⟩ = some (.int .i64 (usA T k)) := (hLS.us.cell k (arr_get _ (by omega)))
                    have f1 : w2.frozen? ⟨g + 1, k, none⟩ = false := hLS.us.frozen k
                    have bb := bound_us (unhide HL1 _ _ _ (unhide HT)).gd k
                    have HZ : Hid (LTX (w2.setCell ⟨g + 1, k, none⟩ (.int .i64 (usA T k + 1))) T' (j + 1)) := hide (unhide HL2 _ _ _ (by
                      have := hLS.setU (k := k) (by omega) (usA T k + 1)
                      unfold LT
                      rw [hc1, hc2]
                      exact this))
                    obtain ⟨nv, hnv⟩ : ∃ nv, nv = usA T k := ⟨_, rfl⟩
                    rw [← hnv] at c1 bb HZ
                    have hkI : (k : Int) < 6 := by omega
                    have hb1 : 1 ≤ (k : Int) := by omega
                    have hb5 : (k : Int) ≤ 5 := by omega
                    have hb0 : (0 : Int) ≤ (k : Int) := by omega
                    rw [hk] at d1
                    rw [a3] at d0
                    clear hC hLS HU hc1 hc2 hnv hk HX hE0 h8b hi1 hi5 hibb a3
                    go_wp2
                    go_meet
                    exact hide ⟨T', unhide HZ⟩
                  · have b3 : (ask == 3) = false := by simpa using a3
                    by_cases a4 : ask = 4
                    · obtain ⟨k, hk, hk1, hk5, hc1, hc2⟩ := hC.loose hE0 ((unhide HXI).1.symm.trans a4)
                      rw [hlen5] at hk5
                      rw [← (unhide HXI).2] at hk
                      have c1 : w2.cell? ⟨g + 1, k, none⟩ = some (.int .i64 (usA T k)) := (hLS.us.cell k (arr_get _ (by omega)))
                      have f1 : w2.frozen? ⟨g + 1, k, none⟩ = false := hLS.us.frozen k
                      have bb := bound_us (unhide HL1 _ _ _ (unhide HT)).gd k
                      have HZ : Hid (LTX (w2.setCell ⟨g + 1, k, none⟩ (.int .i64 (usA T k - 1))) T' (j + 1)) := hide (unhide HL2 _ _ _ (by
                        have := hLS.setU (k := k) (by omega) (usA T k - 1)
                        unfold LT
                        rw [hc1, hc2]
                        exact this))
                      obtain ⟨nv, hnv⟩ : ∃ nv, nv = usA T k := ⟨_, rfl⟩
                      rw [← hnv] at c1 bb HZ
                      have hkI : (k : Int) < 6 := by omega
                      have hb1 : 1 ≤ (k : Int) := by omega
                      have hb5 : (k : Int) ≤ 5 := by omega
                      have hb0 : (0 : Int) ≤ (k : Int) := by omega
                      rw [hk] at d1
                      rw [a4] at d0
                      clear hC hLS HU hc1 hc2 hnv hk HX hE0 h8b hi1 hi5 hibb a4
                      go_wp2
                      go_meet
                      exact hide ⟨T', unhide HZ⟩
                    · have HZ := hide (unhide HU (hC.other (by rw [← (unhide HXI).1]; exact a1) (by rw [← (unhide HXI).1]; exact a2) (by rw [← (unhide HXI).1]; exact a3) (by rw [← (unhide HXI).1]; exact a4)))
                      have b4 : (ask == 4) = false := by simpa using a4
                      have hi1' : 1 ≤ ib := by omega
                      have hi5' : ib ≤ 5 := by omega
                      clear hC hLS HU HX hE0 hi1 hi5 a1 a2 a3 a4
                      go_wp2
                      go_meet
                      exact hide ⟨T', unhide HZ⟩
          case rest =>
            clear HT HX HXI d0 d1 q0 q1 q2 q3 q4 HCD h8b hibb hSs hbig h0
            obtain ⟨T', hT'⟩ := unhide hcut
            have HT2 := hide hT'
            have hLS := unhide HL1 _ _ _ hT'
            have HFR := hide (tfree_any hLS.tab)
            have HSZ : Hid (∀ i : Nat, i < 5 → sizeOfN (ndAt T' ((i : Int) + 1)) ≤ 4096 ∧ Calls Try.prog 22 #[.pointer (some ⟨p, 0, none⟩), .int .i64 ((i : Int) + 1)] wc fun e w' => e = .returned (.int .i64 (sizeOfN (ndAt T' ((i : Int) + 1)) : Int)) ∧ w' = wc) := hide (fun i hi => by
              obtain ⟨LL, hLL, _⟩ := hLS.tab
              refine ⟨?_, tsize_any hLL ((i : Int) + 1) (by omega)⟩
              cases hx : ndAt T' ((i : Int) + 1) with
              | none => exact Nat.zero_le _
              | some y =>
                obtain ⟨k, _, hk, _⟩ := ndAt_some hx
                exact (hLS.gd k y hk).1.size)
            obtain ⟨fr, hfr⟩ : ∃ fr, fr = 100 - usedT T' := ⟨_, rfl⟩
            obtain ⟨ft, hft⟩ : ∃ ft, ft = freeT T' := ⟨_, rfl⟩
            rw [← hfr, ← hft] at HFR
            have HNE : Hid (100 ≤ fr + needT T' ∧ fr ≤ 100) := hide (by
              have := used_need hLS.len hLS.gd
              omega)
            clear hT' hLS hcut hfr hft
            go_wp2_with fail
            refine (unhide HFR).mono ?_
            rintro e w3 ⟨rfl, hw⟩
            rw [show w3 = wc from hw]
            clear hw HFR
            go_wp2_with fail
            go_loopw [14, 15] (fun nd k wx => ∃ i m : Nat, k = .int .i64 ((i : Int) + 1) ∧ nd = .int .i64 (m : Int) ∧ i ≤ 5 ∧ m ≤ 64 * i ∧ wx = wc ∧ Hid (m = needTo T' i)) (fun _ k _ => 6 - (intOf k).toNat)
            case atStart => exact ⟨0, 0, rfl, rfl, by omega, by omega, rfl, hide rfl⟩
            case round =>
              obtain ⟨i, m, rfl, rfl, hi5, hm, rfl, HM⟩ := hrel
              by_cases hi : i < 5
              · obtain ⟨z1, z2⟩ := unhide HSZ i hi
                have HZ2 := hide z2
                have HN2 : Hid (needTo T' (i + 1) = m + (sizeOfN (ndAt T' ((i : Int) + 1)) + 63) / 64) := hide (by
                  show needTo T' i + needN (ndAt T' ((i : Int) + 1)) = _
                  rw [← unhide HM]
                  rfl)
                obtain ⟨sz, hsz⟩ : ∃ sz, sz = sizeOfN (ndAt T' ((i : Int) + 1)) := ⟨_, rfl⟩
                rw [← hsz] at z1 HZ2 HN2
                have hi1 : (i : Int) + 1 ≤ 5 := by omega
                clear z2 hsz HM
                go_wp2_with fail
                refine (unhide HZ2).mono ?_
                rintro e w4 ⟨rfl, hw⟩
                rw [show w4 = _ from hw]
                clear hw
                go_wp2
                go_roundw
                case rel => exact ⟨i + 1, m + (sz + 63) / 64, by go_num, by go_num, by omega, by omega, trivial, hide (unhide HN2).symm⟩
                case measure => simp [intOf]; omega
              · obtain rfl : i = 5 := by omega
                have hb1 : ¬ (fr : Int) < 100 - (m : Int) := by
                  have h1 := unhide HM
                  rw [needTo_all] at h1
                  have h2 := unhide HNE
                  omega
                have hb2 : ¬ (100 : Int) < (fr : Int) := by have := unhide HNE; omega
                clear HSZ HNE HM
                go_wp2
                go_roundw
                case rel => exact ⟨j + 1, T', by go_num, by omega, by omega, HT2⟩
                case measure => simp [intOf]; omega
    · go_upto_region 6 with fail
      go_cut [36] from 29 to 36 (fun x wx => x = .bool false ∧ wx = wr)
      case first =>
        by_cases h1 : j < len
        · have h2 : ¬ (j : Int) < 80 := by omega
          have h3 : (j : Int) < (len : Int) := by omega
          clear hin
          go_wp2
          go_meet
          exact ⟨rfl, rfl⟩
        · have h3 : ¬ (j : Int) < (len : Int) := by omega
          clear hin
          go_wp2
          go_meet
          exact ⟨rfl, rfl⟩
      case rest =>
        obtain ⟨rfl, hwc⟩ := hcut
        rw [hwc]
        clear hwc HROW HLN
        have HT3 := hide (unhide HL2 _ _ _ ((unhide HL1 _ _ _ (unhide HT)).mono (show j ≤ 100 by omega)))
        clear HT hin hjl hj80
        go_wp2_with fail
        go_loopw [16] (fun k wx => ∃ (i : Nat) (T : TB), k = .int .i64 ((i : Int) + 1) ∧ i ≤ 5 ∧ Hid (LTX wx T (100 + 2 * i) ∧ ∀ t : Nat, t < i → ndAt T ((t : Int) + 1) = none)) (fun k _ => 6 - (intOf k).toNat)
        case atStart => exact ⟨0, _, rfl, by omega, hide ⟨unhide HT3, fun t ht => by omega⟩⟩
        case round =>
          clear HT3
          obtain ⟨i, T1, rfl, hi5, HT⟩ := hrel
          by_cases hi : i < 5
          · have hLS := unhide HL1 _ _ _ (unhide HT).1
            obtain ⟨k, hk⟩ : ∃ k : Nat, k = i + 1 := ⟨_, rfl⟩
            have hkI : (i : Int) + 1 = (k : Int) := by omega
            have c1 : wr.cell? ⟨g, k, none⟩ = some (.int .i64 (nmA T1 k)) := hLS.nm.cell k (arr_get _ (by omega))
            have HLK : Hid (∀ W2, Below wr.heap.size wr W2 → Calls Try.prog 23 #[.pointer (some ⟨p, 0, none⟩), .int .i64 (k : Int)] W2 fun e w' => e = .returned (.int .i64 (nmA T1 k)) ∧ w'.cell? ⟨g, k, none⟩ = some (.int .i64 (nmA T1 k)) ∧ Hid (Below wr.heap.size wr w')) := hide (fun W2 hb => by
              have h1 := LS.below hLS hb
              obtain ⟨LL, hLL, _⟩ := h1.tab
              refine (tlinks_any hLL (k : Int) (by omega)).mono ?_
              rintro e w' ⟨h2, h3⟩
              rw [show w' = W2 from h3]
              exact ⟨h2, h1.nm.cell k (arr_get _ (by omega)), hide hb⟩)
            have bb := bound_nm hLS.gd k
            have HBL : Hid (∀ wa, Below wr.heap.size wr wa → LTX wa T1 (101 + 2 * i)) := hide (fun wa hb => unhide HL2 _ _ _ ((LS.below hLS hb).mono (by omega)))
            have HPR : Hid (∀ t : Nat, t < i → ndAt T1 ((t : Int) + 1) = none) := hide (unhide HT).2
            obtain ⟨nv, hnv⟩ : ∃ nv, nv = nmA T1 k := ⟨_, rfl⟩
            rw [← hnv] at c1 HLK bb
            have hk6 : (k : Int) < 6 := by omega
            have hk0 : (0 : Int) ≤ (k : Int) := by omega
            have hk5 : (k : Int) ≤ 5 := by omega
            have HK := hide hk
            rw [hkI]
            clear hLS hnv HT hk hkI hi5
            go_wp2_with fail
            go_region_held3 (fun w' => w'.cell? ⟨g, k, none⟩ = some (.int .i64 nv)) (go_keep) ((go_at_call 23; refine (unhide HLK _ (by first | exact Below.refl _ _ | exact below_drew _ _)).mono ?_; rintro e wa ⟨rfl, a0, HA2⟩))
            have HTA := hide (unhide HBL wa (unhide HA2))
            clear HLK HBL HA2 a0 c1 bb
            go_upto_region 36 with fail
            go_cut [148] from 139 to 148 (fun v wy => ∃ b : Bool, v = .bool b ∧ Hid ((b = false → ∃ T', LTX wy T' (102 + 2 * i) ∧ (∀ t : Nat, t < i → ndAt T' ((t : Int) + 1) = none) ∧ Busy T' k) ∧ (b = true → ∃ uv : Int, (0 ≤ uv ∧ uv ≤ 1000) ∧ wy.cell? ⟨g + 1, k, none⟩ = some (.int .i64 uv) ∧ wy.frozen? ⟨g + 1, k, none⟩ = false ∧ ∃ T', LTX (wy.setCell ⟨g + 1, k, none⟩ (.int .i64 (uv + 1))) T' (102 + 2 * i) ∧ (∀ t : Nat, t < i → ndAt T' ((t : Int) + 1) = none) ∧ Busy T' k)))
            case first =>
              have hLA := unhide HL1 _ _ _ (unhide HTA)
              obtain ⟨LL, hLL, _⟩ := hLA.tab
              have HKD := hide (tkind_any hLL (k : Int) (by omega))
              have hkn := unhide HK
              cases hx : ndAt T1 (k : Int) with
              | none =>
                rw [hx] at HKD
                have HZ : Hid (∃ T', LTX wa T' (102 + 2 * i) ∧ (∀ t : Nat, t < i → ndAt T' ((t : Int) + 1) = none) ∧ Busy T' k) := hide ⟨T1, unhide HL2 _ _ _ (hLA.mono (by omega)), unhide HPR, .inl hx⟩
                clear hLA hLL hx hkn HTA
                go_wp2_with fail
                refine (unhide HKD).mono ?_
                rintro e w4 ⟨rfl, hw⟩
                rw [show w4 = wa from hw, show ((kindOf none : Nat) : Int) = 0 from rfl]
                clear hw
                go_wp2
                go_meet
                exact ⟨false, rfl, hide ⟨fun _ => unhide HZ, fun h => by cases h⟩⟩
              | some y =>
                rw [hx] at HKD
                obtain ⟨k0, hk0', hty, _⟩ := ndAt_some hx
                have hkd : (0 : Int) < (y.kind : Int) := by have := (hLA.gd k0 y hty).1.kind1; omega
                have hus := bound_us hLA.gd k
                have HH : Hid (Calls Try.prog 26 #[.pointer (some ⟨p, 0, none⟩), .int .i64 (k : Int)] wa fun e w' => e = .returned (.int .i64 0) ∧ Hid (∃ uv : Int, (0 ≤ uv ∧ uv ≤ 1000) ∧ w'.cell? ⟨g + 1, k, none⟩ = some (.int .i64 uv) ∧ w'.frozen? ⟨g + 1, k, none⟩ = false ∧ ∃ T', LTX (w'.setCell ⟨g + 1, k, none⟩ (.int .i64 (uv + 1))) T' (102 + 2 * i) ∧ (∀ t : Nat, t < i → ndAt T' ((t : Int) + 1) = none) ∧ Busy T' k)) := hide (by
                  refine (LS.hold hLA (by omega) hx (by omega)).mono ?_
                  rintro e w' ⟨h1, ⟨h2, h3⟩, T', h4, h5, h6⟩
                  exact ⟨h1, hide ⟨usA T1 k, ⟨hus.1, by omega⟩, h2, h3, T', unhide HL2 _ _ _ (h4.mono (by omega)), fun t ht => (h5 _ (by omega)).trans (unhide HPR t ht), h6⟩⟩)
                obtain ⟨kd, hkd2⟩ : ∃ kd, kd = ((kindOf (some y) : Nat) : Int) := ⟨_, rfl⟩
                have hkd3 : 0 < kd := by rw [hkd2]; exact hkd
                rw [← hkd2] at HKD
                clear hLA hLL hx hkn HTA hkd hkd2 hty hk0' hus
                go_wp2_with fail
                refine (unhide HKD).mono ?_
                rintro e w4 ⟨rfl, hw⟩
                rw [show w4 = wa from hw]
                clear hw
                go_wp2_with fail
                refine (unhide HH).mono ?_
                rintro e w4 ⟨rfl, HZ⟩
                go_wp2
                go_meet
                exact ⟨true, rfl, hide ⟨fun h => (by cases h), fun _ => unhide HZ⟩⟩
            case rest =>
            obtain ⟨b, rfl, HB⟩ := hcut
            clear HTA HPR
            go_upto_if 148 with fail
            go_cut [] from 148 to 153 (fun wz => Hid (∃ T', LTX wz T' (102 + 2 * i) ∧ (∀ t : Nat, t < i → ndAt T' ((t : Int) + 1) = none) ∧ Busy T' k))
            case first =>
              cases b with
              | false =>
                have HZ := hide ((unhide HB).1 rfl)
                clear HB
                go_wp2
                go_meet
                exact HZ
              | true =>
                obtain ⟨uv, hub, u1, u2, u3⟩ := (unhide HB).2 rfl
                have HZ := hide u3
                clear HB u3
                go_wp2
                go_meet
                exact HZ
            case rest =>
            clear HB
            have HS4 := hcut
            clear hcut
            go_wp2_with fail
            go_loopw [158] (fun _ wr => Hid (∃ T', LTX wr T' (102 + 2 * i) ∧ (∀ t : Nat, t < i → ndAt T' ((t : Int) + 1) = none) ∧ Busy T' k)) (fun _ wr => cellI wr g k)
            case atStart => exact HS4
            case round =>
              clear HS4
              obtain ⟨T2, h2, hpr, hbu⟩ := unhide hrel
              have hL2 := unhide HL1 _ _ _ h2
              have hkn := unhide HK
              have c1 : wr.cell? ⟨g, k, none⟩ = some (.int .i64 (nmA T2 k)) := hL2.nm.cell k (arr_get _ (by omega))
              have f1 : wr.frozen? ⟨g, k, none⟩ = false := hL2.nm.frozen k
              have bb := bound_nm hL2.gd k
              have hm1 := cellI_of c1
              by_cases hpos : 0 < nmA T2 k
              · obtain ⟨y, hy, hyu⟩ : ∃ y, ndAt T2 (k : Int) = some y ∧ 1 ≤ y.users := by
                  rcases hbu with h | h
                  · exfalso
                    unfold nmA at hpos
                    rw [h] at hpos
                    exact absurd hpos (by decide)
                  · exact h
                have hyn : 1 ≤ y.names := by
                  unfold nmA at hpos
                  rw [hy] at hpos
                  have hpos : 0 < ((y.names : Nat) : Int) := hpos
                  omega
                have HU : Hid (Calls Try.prog 27 #[.pointer (some ⟨p, 0, none⟩), .int .i64 (k : Int)] (wr.setCell ⟨g, k, none⟩ (.int .i64 (nmA T2 k - 1))) fun e w' => e = .returned (.int .i64 0) ∧ Hid ((∃ T', LTX w' T' (102 + 2 * i) ∧ (∀ t : Nat, t < i → ndAt T' ((t : Int) + 1) = none) ∧ Busy T' k) ∧ cellI w' g k < cellI wr g k)) := hide (by
                  refine (LS.untie hL2 (by omega) hy (by omega) hyn hyu).mono ?_
                  rintro e w' ⟨h1, T3, h3, h4, h5, h6⟩
                  refine ⟨h1, hide ⟨⟨T3, unhide HL2 _ _ _ h3, fun t ht => (h4 _ (by omega)).trans (hpr t ht), h5⟩, ?_⟩⟩
                  have c2 : w'.cell? ⟨g, k, none⟩ = some (.int .i64 (nmA T3 k)) := h3.nm.cell k (arr_get _ (by omega))
                  rw [cellI_of c2, hm1, h6]
                  omega)
                obtain ⟨nw, hnw⟩ : ∃ nw, nw = nmA T2 k := ⟨_, rfl⟩
                rw [← hnw] at c1 bb hpos HU
                clear h2 hpr hbu hL2 hkn hm1 hy hyu hyn hnw hrel
                go_wp2_with fail
                refine (unhide HU).mono ?_
                rintro e w5 ⟨rfl, H5⟩
                go_wp2
                go_roundw
                case rel => exact hide (unhide H5).1
                case measure => exact (unhide H5).2
              · have hz : nmA T2 k = 0 := by omega
                have HS5 : Hid (∃ T', LTX wr T' (102 + 2 * i) ∧ (∀ t : Nat, t < i → ndAt T' ((t : Int) + 1) = none) ∧ Busy T' k ∧ nmA T' k = 0) := hide ⟨T2, h2, hpr, hbu, hz⟩
                rw [hz] at c1
                clear h2 hpr hbu hL2 hkn hm1 hpos hz hrel bb f1
                go_wp2_with fail
                go_loopw [171] (fun _ wr => Hid (∃ T', LTX wr T' (102 + 2 * i) ∧ (∀ t : Nat, t < i → ndAt T' ((t : Int) + 1) = none) ∧ Busy T' k ∧ nmA T' k = 0)) (fun _ wr => cellI wr (g + 1) k)
                case atStart => exact HS5
                case round =>
                  clear HS5 c1
                  obtain ⟨T2, h2, hpr, hbu, hz⟩ := unhide hrel
                  have hL2 := unhide HL1 _ _ _ h2
                  have hkn := unhide HK
                  have c1 : wr.cell? ⟨g + 1, k, none⟩ = some (.int .i64 (usA T2 k)) := hL2.us.cell k (arr_get _ (by omega))
                  have f1 : wr.frozen? ⟨g + 1, k, none⟩ = false := hL2.us.frozen k
                  have bb := bound_us hL2.gd k
                  have hm1 := cellI_of c1
                  by_cases hpos : 0 < usA T2 k
                  · obtain ⟨y, hy, hyu⟩ : ∃ y, ndAt T2 (k : Int) = some y ∧ 1 ≤ y.users := by
                      rcases hbu with h | h
                      · exfalso
                        unfold usA at hpos
                        rw [h] at hpos
                        exact absurd hpos (by decide)
                      · exact h
                    have hyn : y.names = 0 := by
                      unfold nmA at hz
                      rw [hy] at hz
                      have hz : ((y.names : Nat) : Int) = 0 := hz
                      omega
                    have HU : Hid (Calls Try.prog 28 #[.pointer (some ⟨p, 0, none⟩), .int .i64 (k : Int)] (wr.setCell ⟨g + 1, k, none⟩ (.int .i64 (usA T2 k - 1))) fun e w' => e = .returned (.int .i64 0) ∧ Hid ((∃ T', LTX w' T' (102 + 2 * i) ∧ (∀ t : Nat, t < i → ndAt T' ((t : Int) + 1) = none) ∧ Busy T' k ∧ nmA T' k = 0) ∧ cellI w' (g + 1) k < cellI wr (g + 1) k)) := hide (by
                      refine (LS.loose hL2 (by omega) hy (by omega) hyn hyu).mono ?_
                      rintro e w' ⟨h1, T3, h3, h4, h5, h6, h7⟩
                      refine ⟨h1, hide ⟨⟨T3, unhide HL2 _ _ _ h3, fun t ht => (h4 _ (by omega)).trans (hpr t ht), h5, h7⟩, ?_⟩⟩
                      have c2 : w'.cell? ⟨g + 1, k, none⟩ = some (.int .i64 (usA T3 k)) := h3.us.cell k (arr_get _ (by omega))
                      rw [cellI_of c2, hm1, h6]
                      omega)
                    obtain ⟨nw, hnw⟩ : ∃ nw, nw = usA T2 k := ⟨_, rfl⟩
                    rw [← hnw] at c1 bb hpos HU
                    clear h2 hpr hbu hL2 hkn hm1 hy hyu hyn hnw hrel hz
                    go_wp2_with fail
                    refine (unhide HU).mono ?_
                    rintro e w5 ⟨rfl, H5⟩
                    go_wp2
                    go_roundw
                    case rel => exact hide (unhide H5).1
                    case measure => exact (unhide H5).2
                  · have hz2 : usA T2 k = 0 := by omega
                    have hno : ndAt T2 (k : Int) = none := by
                      rcases hbu with h | ⟨y, hy, hyu⟩
                      · exact h
                      · exfalso
                        unfold usA at hz2
                        rw [hy] at hz2
                        have hz2 : ((y.users : Nat) : Int) = 0 := hz2
                        omega
                    rw [hz2] at c1
                    obtain ⟨LL, hLL, _⟩ := hL2.tab
                    have HKD := hide (tkind_any hLL (k : Int) (by omega))
                    have HSZ := hide (tsize_any hLL (k : Int) (by omega))
                    rw [hno] at HKD HSZ
                    have HLO : Hid (Calls Try.prog 28 #[.pointer (some ⟨p, 0, none⟩), .int .i64 (k : Int)] wr fun e w' => e = .returned (.int .i64 23) ∧ Hid (LTX w' T2 (100 + 2 * (i + 1)) ∧ ∀ t : Nat, t < i + 1 → ndAt T2 ((t : Int) + 1) = none)) := hide (by
                      refine (tloose_any hL2.tab (k : Int) (by omega) (fun t y hy => Nat.le_trans (hL2.gd t y hy).2.2 (by omega))).mono ?_
                      rintro e w' ⟨h1, h3, h4⟩
                      have e1 : looE T2 (k : Int) = 23 := by unfold looE; rw [hno]
                      have e2 : looT T2 (k : Int) = T2 := by unfold looT; rw [hno]
                      rw [e1] at h1
                      rw [e2] at h3
                      refine ⟨h1, hide ⟨unhide HL2 _ _ _ ((LS.turn hL2 h3 h4 hL2.gd hL2.len).mono (by omega)), fun t ht => ?_⟩⟩
                      rcases Nat.lt_or_ge t i with h5 | h5
                      · exact hpr t h5
                      · rw [show ((t : Int) + 1) = (k : Int) by omega]
                        exact hno)
                    clear h2 hpr hbu hL2 hm1 hpos hz hz2 hrel bb f1 hno hLL
                    have HK2 := hide hkn
                    clear hkn
                    go_wp2_with fail
                    refine (unhide HKD).mono ?_
                    rintro e w6 ⟨rfl, hw⟩
                    rw [show w6 = wr from hw, show ((kindOf none : Nat) : Int) = 0 from rfl]
                    clear hw
                    go_wp2_with fail
                    refine (unhide HSZ).mono ?_
                    rintro e w6 ⟨rfl, hw⟩
                    rw [show w6 = wr from hw, show ((sizeOfN none : Nat) : Int) = 0 from rfl]
                    clear hw
                    go_wp2_with fail
                    refine (unhide HLO).mono ?_
                    rintro e w6 ⟨rfl, H6⟩
                    go_wp2
                    go_roundw
                    case rel => exact ⟨i + 1, T2, by have := unhide HK2; go_num, by omega, H6⟩
                    case measure => have := unhide HK2; simp [intOf]; omega
          · obtain rfl : i = 5 := by omega
            have hLS := unhide HL1 _ _ _ (unhide HT).1
            have hnone : T1 = [none, none, none, none, none] := by
              rw [five_of hLS.len]
              have h0 := (unhide HT).2 0 (by omega)
              have h1 := (unhide HT).2 1 (by omega)
              have h2 := (unhide HT).2 2 (by omega)
              have h3 := (unhide HT).2 3 (by omega)
              have h4 := (unhide HT).2 4 (by omega)
              rw [show ndAt T1 1 = none from h0, show ndAt T1 2 = none from h1, show ndAt T1 3 = none from h2, show ndAt T1 4 = none from h3, show ndAt T1 5 = none from h4]
            have HFR := hide (tfree_any hLS.tab)
            rw [hnone, show freeT [none, none, none, none, none] = 5 by decide, show 100 - usedT [none, none, none, none, none] = 100 by decide] at HFR
            have HA := hide (unhide HAW _ hLS.bel)
            clear hLS hnone HT
            go_wp2_with fail
            refine (unhide HFR).mono ?_
            rintro e w3 ⟨rfl, hw⟩
            rw [show w3 = _ from hw]
            clear hw HFR
            go_wp2_with fail
            refine (unhide HA).mono ?_
            rintro e w3 ⟨rfl, hw⟩
            have HB := hide hw
            clear hw
            go_wp2
            go_ret
            exact ⟨rfl, unhide HB⟩

end Go.Proofs.Ytcfhgjlihifmnaa
