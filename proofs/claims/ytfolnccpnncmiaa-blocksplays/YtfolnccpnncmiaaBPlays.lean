/-
  BlocksPlays: call by call as the document's store.
-/
import Derived.Test.YtfolnccpnncmiaaBBoth
import Derived.Deep.LoopGhost
import Derived.Deep.DeepCutAuto
import Derived.Deep.CutRange
import Derived.Deep.RegionHeld3
namespace Go.Proofs.Ytfolnccpnncmiaa
open Go.RowKit

theorem i64_0 : I64 0 := by unfold I64; decide
theorem i64_1 : I64 1 := by unfold I64; decide

set_option maxRecDepth 20000 in
set_option maxHeartbeats 8000000 in
theorem plays_walk (n : Int) (v : Value) (L : List Op11) (w : World) (hn : I64 n) (hl : ORow w v L) : Calls Try.prog 3 #[.int .i64 n, v] w fun e w' => e = .returned (.bool true) ∧ Below w.heap.size w w' := by
  have HAW : Hid (∀ W, Below w.heap.size w W → Calls Try.prog 10 #[] W fun e w' => e = .returned (.bool true) ∧ Below w.heap.size w w') := hide (fun W hW => (awake_any W).mono (fun e w' ⟨h1, h2⟩ => ⟨h1, hW.trans (h2.mono hW.size)⟩))
  obtain ⟨ad, cap, rfl, hp⟩ := hl
  obtain ⟨K, hK⟩ : ∃ K, K = L.length := ⟨_, rfl⟩
  rw [← hK]
  unfold I64 at hn
  have HP := hide hp
  have HK := hide hK
  clear hp hK
  by_cases hok : 1 ≤ n ∧ n ≤ 4096
  · obtain ⟨o1, o2⟩ := hok
    obtain ⟨N, rfl⟩ : ∃ N : Nat, n = N := ⟨n.toNat, by omega⟩
    have HNW := hide (new_held N w w (Below.refl _ _) (by omega) (by omega))
    have HRN := hide (fun W => rnew_any N W (by omega) (by omega))
    clear o1 o2 hn
    go_enter Try.func3, Try.ntmps3
    go_wp2_with fail
    refine (unhide HNW).mono ?_
    rintro e w1 ⟨p0, g0, h0, rfl, k1, b1⟩
    have K1 := hide k1
    clear k1 HNW b1
    go_wp2_with fail
    refine (unhide HRN w1).mono ?_
    rintro e w2 ⟨q0, r0, rfl, k2, b2, i1, i2⟩
    have K2 : Hid (DD w w2 p0 g0 h0 q0 r0 (List.replicate N []) (List.replicate N [])) := hide ⟨(unhide K1).below b2, k2, Nat.le_trans (unhide K1).2.1.size i1, Nat.le_trans (unhide K1).2.1.size i2⟩
    clear k2 b2 i1 i2 K1 HRN
    go_wp2_with fail
    go_loopw [5, 7, 9] (fun s rs i wr => ∃ (k p g h q r : Nat) (l : BL), s = .pointer (some ⟨p, 0, none⟩) ∧ rs = .pointer (some ⟨q, 0, none⟩) ∧ i = .int .i64 (k : Int) ∧ k ≤ K ∧ Hid (DD w wr p g h q r l l)) (fun _ _ i _ => K - (intOf i).toNat)
    case atStart => exact ⟨0, _, _, _, _, _, _, rfl, rfl, rfl, Nat.zero_le _, K2⟩
    case round =>
      obtain ⟨k, p, g, h, q, r, l, rfl, rfl, rfl, hk, HD⟩ := hrel
      by_cases hlt : k < K ∧ k < 100
      · obtain ⟨x, hx⟩ : ∃ x, L[k]? = some x := ⟨_, List.getElem?_eq_getElem (by have := unhide HK; omega)⟩
        obtain ⟨⟨ga, oa, rfl, hga, hc⟩, hxo⟩ := unhide HP k x hx
        obtain ⟨c0, c1, c2, c3, c4⟩ : OCell wr ga (oa + k * 5) x := by
          have hb := (unhide HD).held.2.1
          exact ⟨(hb.cell (p := ⟨ga, _, none⟩) hga).trans hc.1, (hb.cell (p := ⟨ga, _, none⟩) hga).trans hc.2.1, (hb.cell (p := ⟨ga, _, none⟩) hga).trans hc.2.2.1, (hb.cell (p := ⟨ga, _, none⟩) hga).trans hc.2.2.2.1, (hb.cell (p := ⟨ga, _, none⟩) hga).trans hc.2.2.2.2⟩
        obtain ⟨ask, bb, at1, nn, dd⟩ := x
        obtain ⟨x1, x2, x3, x4⟩ := hxo
        simp only at c0 c1 c2 c3 c4 x1 x2 x3 x4
        have hk1 : (k : Int) < (K : Int) := by omega
        have hk2 : (k : Int) < 100 := by omega
        have hk0 : (0 : Int) ≤ (k : Int) := by omega
        clear hx hc hga
        go_upto_region 11 with fail
        obtain ⟨WA, hWA⟩ : ∃ WA, WA = wr.alloc (Obj.cells #[Value.int IntKind.i64 ask, Value.int IntKind.i64 bb, Value.int IntKind.i64 at1, Value.int IntKind.i64 nn, Value.string (BA dd)] 32) := ⟨_, rfl⟩
        obtain ⟨nb, hnb⟩ : ∃ nb, nb = wr.heap.size := ⟨_, rfl⟩
        have PA : Hid (PS w WA p g h q r nb l l ⟨ask, bb, at1, nn, dd⟩) := hide (by
          rw [hWA, hnb]
          exact ⟨(unhide HD).below ((Below.refl _ _).alloc (Nat.le_refl _) _), Blk.new _ _ _⟩)
        rw [← hWA, ← hnb]
        clear hWA hnb HD c0 c1 c2 c3 c4
        obtain ⟨e0, e1, e2, e3, e4⟩ := (unhide PA).ob.cells
        simp only at e0 e1 e2 e3 e4
        by_cases hd : dd.length ≤ 200
        · have hd1 : (dd.length : Int) ≤ 200 := by omega
          by_cases h0 : ask = 0
          · subst h0
            go_wp2_with fail
            refine (unhide PA).take.mono ?_
            rintro e w3 ⟨rfl, ps3⟩
            have P3 := hide ps3
            clear ps3 PA e0 e1 e2 e3 e4
            go_wp2_with fail
            refine (unhide P3).rtake.mono ?_
            rintro e w4 ⟨rfl, ps4⟩
            have PT := hide ps4
            clear ps4 P3
            obtain ⟨e0, e1, e2, e3, e4⟩ := (unhide PT).ob.cells
            simp only at e0 e1 e2 e3 e4
            go_wp2_with fail
            refine ((unhide PT).read bb 0 64 x2 i64_0).mono ?_
            rintro e w8 ⟨rfl, hw8⟩
            rw [show w8 = _ from hw8]
            clear hw8
            go_wp2_with fail
            refine ((unhide PT).rread bb 0 64 x2 i64_0).mono ?_
            rintro e w8 ⟨rfl, hw8⟩
            rw [show w8 = _ from hw8]
            clear hw8
            go_wp2_with fail
            refine (free_held (unhide PT).dd.held).mono ?_
            rintro e w8 ⟨rfl, hw8⟩
            rw [show w8 = _ from hw8]
            clear hw8
            go_wp2_with fail
            refine (rfree_any _ _ _ _ (unhide PT).dd.ref).mono ?_
            rintro e w8 ⟨rfl, hw8⟩
            rw [show w8 = _ from hw8]
            clear hw8 e0 e1 e2 e3 e4
            have PD := hide (unhide PT).dd
            clear PT
            go_wp2
            go_roundw
            case rel => exact ⟨k + 1, _, _, _, _, _, _, rfl, rfl, by go_num, by omega, PD⟩
            case measure => simp [intOf]; omega
          · by_cases h1 : ask = 1
            · subst h1
              have HG : Hid (∀ W, PS w W p g h q r nb l l ⟨1, bb, at1, nn, dd⟩ → Calls Try.prog 13 #[.pointer (some ⟨p, 0, none⟩), .int .i64 bb] W fun e w' => e = .returned (.int .i64 (giveE l bb)) ∧ w'.cell? ⟨nb, 1, none⟩ = some (.int .i64 bb) ∧ Hid (PS w w' p g h q r nb (giveL l bb) l ⟨1, bb, at1, nn, dd⟩)) := hide (fun W hW => (hW.give bb x2).mono (fun e w' ⟨h1, h2⟩ => ⟨h1, h2.ob.cells.2.1, hide h2⟩))
              have HG2 : Hid (∀ W, PS w W p g h q r nb (giveL l bb) l ⟨1, bb, at1, nn, dd⟩ → Calls Try.prog 14 #[.pointer (some ⟨q, 0, none⟩), .int .i64 bb] W fun e w' => e = .returned (.int .i64 (giveE l bb)) ∧ w'.cell? ⟨nb, 1, none⟩ = some (.int .i64 bb) ∧ Hid (PS w w' p g h q r nb (giveL l bb) (giveL l bb) ⟨1, bb, at1, nn, dd⟩)) := hide (fun W hW => (hW.rgive bb x2).mono (fun e w' ⟨h1, h2⟩ => ⟨h1, h2.ob.cells.2.1, hide h2⟩))
              go_wp2_with fail
              go_region_held3 (fun w' => w'.cell? ⟨nb, 1, none⟩ = some (.int .i64 bb)) (go_keep) (first
                | (go_at_call 13; refine (unhide HG _ (by first | exact unhide PA | exact (unhide PA).below (below_drew _ _))).mono ?_; rintro e w3 ⟨rfl, d1, P3⟩)
                | (go_at_call 14; refine (unhide HG2 _ (by first | exact unhide P3 | exact (unhide P3).below (below_drew _ _))).mono ?_; rintro e w4 ⟨rfl, d2, P4⟩))
              have PT := P4
              clear PA P3 P4 HG HG2 d1 d2 e0 e1 e2 e3 e4
              obtain ⟨e0, e1, e2, e3, e4⟩ := (unhide PT).ob.cells
              simp only at e0 e1 e2 e3 e4
              go_wp2_with fail
              refine ((unhide PT).read bb 0 64 x2 i64_0).mono ?_
              rintro e w8 ⟨rfl, hw8⟩
              rw [show w8 = _ from hw8]
              clear hw8
              go_wp2_with fail
              refine ((unhide PT).rread bb 0 64 x2 i64_0).mono ?_
              rintro e w8 ⟨rfl, hw8⟩
              rw [show w8 = _ from hw8]
              clear hw8
              go_wp2_with fail
              refine (free_held (unhide PT).dd.held).mono ?_
              rintro e w8 ⟨rfl, hw8⟩
              rw [show w8 = _ from hw8]
              clear hw8
              go_wp2_with fail
              refine (rfree_any _ _ _ _ (unhide PT).dd.ref).mono ?_
              rintro e w8 ⟨rfl, hw8⟩
              rw [show w8 = _ from hw8]
              clear hw8 e0 e1 e2 e3 e4
              have PD := hide (unhide PT).dd
              clear PT
              go_wp2
              go_roundw
              case rel => exact ⟨k + 1, _, _, _, _, _, _, rfl, rfl, by go_num, by omega, PD⟩
              case measure => simp [intOf]; omega
            · by_cases h2 : ask = 2
              · subst h2
                go_wp2_with fail
                refine ((unhide PA).read bb at1 nn x2 x3).mono ?_
                rintro e w3 ⟨rfl, hw3⟩
                rw [show w3 = _ from hw3]
                clear hw3
                go_wp2_with fail
                refine ((unhide PA).rread bb at1 nn x2 x3).mono ?_
                rintro e w3 ⟨rfl, hw3⟩
                rw [show w3 = _ from hw3]
                have PT := PA
                clear hw3 PA e0 e1 e2 e3 e4
                obtain ⟨e0, e1, e2, e3, e4⟩ := (unhide PT).ob.cells
                simp only at e0 e1 e2 e3 e4
                go_wp2_with fail
                refine ((unhide PT).read bb 0 64 x2 i64_0).mono ?_
                rintro e w8 ⟨rfl, hw8⟩
                rw [show w8 = _ from hw8]
                clear hw8
                go_wp2_with fail
                refine ((unhide PT).rread bb 0 64 x2 i64_0).mono ?_
                rintro e w8 ⟨rfl, hw8⟩
                rw [show w8 = _ from hw8]
                clear hw8
                go_wp2_with fail
                refine (free_held (unhide PT).dd.held).mono ?_
                rintro e w8 ⟨rfl, hw8⟩
                rw [show w8 = _ from hw8]
                clear hw8
                go_wp2_with fail
                refine (rfree_any _ _ _ _ (unhide PT).dd.ref).mono ?_
                rintro e w8 ⟨rfl, hw8⟩
                rw [show w8 = _ from hw8]
                clear hw8 e0 e1 e2 e3 e4
                have PD := hide (unhide PT).dd
                clear PT
                go_wp2
                go_roundw
                case rel => exact ⟨k + 1, _, _, _, _, _, _, rfl, rfl, by go_num, by omega, PD⟩
                case measure => simp [intOf]; omega
              · by_cases h3 : ask = 3
                · subst h3
                  have HG : Hid (∀ W, PS w W p g h q r nb l l ⟨3, bb, at1, nn, dd⟩ → Calls Try.prog 17 #[.pointer (some ⟨p, 0, none⟩), .int .i64 bb, .int .i64 at1, .string (BA dd)] W fun e w' => e = .returned (.int .i64 (writeE l bb at1 dd)) ∧ w'.cell? ⟨nb, 1, none⟩ = some (.int .i64 bb) ∧ w'.cell? ⟨nb, 2, none⟩ = some (.int .i64 at1) ∧ w'.cell? ⟨nb, 4, none⟩ = some (.string (BA dd)) ∧ Hid (PS w w' p g h q r nb (writeL l bb at1 dd) l ⟨3, bb, at1, nn, dd⟩)) := hide (fun W hW => (hW.write bb at1 dd x2 x3).mono (fun e w' ⟨h1, h2⟩ => ⟨h1, h2.ob.cells.2.1, h2.ob.cells.2.2.1, h2.ob.cells.2.2.2.2, hide h2⟩))
                  have HG2 : Hid (∀ W, PS w W p g h q r nb (writeL l bb at1 dd) l ⟨3, bb, at1, nn, dd⟩ → Calls Try.prog 18 #[.pointer (some ⟨q, 0, none⟩), .int .i64 bb, .int .i64 at1, .string (BA dd)] W fun e w' => e = .returned (.int .i64 (writeE l bb at1 dd)) ∧ w'.cell? ⟨nb, 1, none⟩ = some (.int .i64 bb) ∧ w'.cell? ⟨nb, 2, none⟩ = some (.int .i64 at1) ∧ w'.cell? ⟨nb, 4, none⟩ = some (.string (BA dd)) ∧ Hid (PS w w' p g h q r nb (writeL l bb at1 dd) (writeL l bb at1 dd) ⟨3, bb, at1, nn, dd⟩)) := hide (fun W hW => (hW.rwrite bb at1 dd x2 x3).mono (fun e w' ⟨h1, h2⟩ => ⟨h1, h2.ob.cells.2.1, h2.ob.cells.2.2.1, h2.ob.cells.2.2.2.2, hide h2⟩))
                  go_wp2_with fail
                  go_region_held3 (fun w' => w'.cell? ⟨nb, 1, none⟩ = some (.int .i64 bb) ∧ w'.cell? ⟨nb, 2, none⟩ = some (.int .i64 at1) ∧ w'.cell? ⟨nb, 4, none⟩ = some (.string (BA dd))) (go_keep) (first
                    | (go_at_call 17; refine (unhide HG _ (by first | exact unhide PA | exact (unhide PA).below (below_drew _ _))).mono ?_; rintro e w3 ⟨rfl, d1, d3, d5, P3⟩)
                    | (go_at_call 18; refine (unhide HG2 _ (by first | exact unhide P3 | exact (unhide P3).below (below_drew _ _))).mono ?_; rintro e w4 ⟨rfl, d2, d4, d6, P4⟩))
                  have PT := P4
                  clear PA P3 P4 HG HG2 d1 d2 d3 d4 d5 d6 e0 e1 e2 e3 e4
                  obtain ⟨e0, e1, e2, e3, e4⟩ := (unhide PT).ob.cells
                  simp only at e0 e1 e2 e3 e4
                  go_wp2_with fail
                  refine ((unhide PT).read bb 0 64 x2 i64_0).mono ?_
                  rintro e w8 ⟨rfl, hw8⟩
                  rw [show w8 = _ from hw8]
                  clear hw8
                  go_wp2_with fail
                  refine ((unhide PT).rread bb 0 64 x2 i64_0).mono ?_
                  rintro e w8 ⟨rfl, hw8⟩
                  rw [show w8 = _ from hw8]
                  clear hw8
                  go_wp2_with fail
                  refine (free_held (unhide PT).dd.held).mono ?_
                  rintro e w8 ⟨rfl, hw8⟩
                  rw [show w8 = _ from hw8]
                  clear hw8
                  go_wp2_with fail
                  refine (rfree_any _ _ _ _ (unhide PT).dd.ref).mono ?_
                  rintro e w8 ⟨rfl, hw8⟩
                  rw [show w8 = _ from hw8]
                  clear hw8 e0 e1 e2 e3 e4
                  have PD := hide (unhide PT).dd
                  clear PT
                  go_wp2
                  go_roundw
                  case rel => exact ⟨k + 1, _, _, _, _, _, _, rfl, rfl, by go_num, by omega, PD⟩
                  case measure => simp [intOf]; omega
                · have f0 : (ask == 0) = false := by simpa using h0
                  have f1 : (ask == 1) = false := by simpa using h1
                  have f2 : (ask == 2) = false := by simpa using h2
                  have f3 : (ask == 3) = false := by simpa using h3
                  clear h0 h1 h2 h3
                  go_wp2_with fail
                  refine (unhide PA).copy.mono ?_
                  rintro e w3 ⟨p', g', h', rfl, el3⟩
                  have E3 := hide el3
                  clear el3 PA e0 e1 e2 e3 e4
                  go_wp2_with fail
                  refine (unhide E3).rcopy.mono ?_
                  rintro e w4 ⟨q', r', rfl, el4⟩
                  have E4 := hide el4
                  clear el4 E3
                  go_wp2_with fail
                  refine (unhide E4).take.mono ?_
                  rintro e w5 ⟨⟨y1, y2, rfl⟩, el5⟩
                  have E5 := hide el5
                  clear el5 E4
                  go_wp2_with fail
                  refine ((unhide E5).write 1 0 [120] i64_1 i64_0).mono ?_
                  rintro e w6 ⟨⟨y3, rfl⟩, ps6⟩
                  have PT := hide ps6
                  clear ps6 E5
                  obtain ⟨e0, e1, e2, e3, e4⟩ := (unhide PT).ob.cells
                  simp only at e0 e1 e2 e3 e4
                  go_wp2_with fail
                  refine ((unhide PT).read bb 0 64 x2 i64_0).mono ?_
                  rintro e w8 ⟨rfl, hw8⟩
                  rw [show w8 = _ from hw8]
                  clear hw8
                  go_wp2_with fail
                  refine ((unhide PT).rread bb 0 64 x2 i64_0).mono ?_
                  rintro e w8 ⟨rfl, hw8⟩
                  rw [show w8 = _ from hw8]
                  clear hw8
                  go_wp2_with fail
                  refine (free_held (unhide PT).dd.held).mono ?_
                  rintro e w8 ⟨rfl, hw8⟩
                  rw [show w8 = _ from hw8]
                  clear hw8
                  go_wp2_with fail
                  refine (rfree_any _ _ _ _ (unhide PT).dd.ref).mono ?_
                  rintro e w8 ⟨rfl, hw8⟩
                  rw [show w8 = _ from hw8]
                  clear hw8 e0 e1 e2 e3 e4
                  have PD := hide (unhide PT).dd
                  clear PT
                  go_wp2
                  go_roundw
                  case rel => exact ⟨k + 1, _, _, _, _, _, _, rfl, rfl, by go_num, by omega, PD⟩
                  case measure => simp [intOf]; omega
        · have hd1 : (200 : Int) < (dd.length : Int) := by omega
          go_wp2_with fail
          refine (unhide HAW _ (unhide PA).dd.held.2.1).mono ?_
          rintro e w3 ⟨rfl, b3⟩
          have HB3 := hide b3
          clear b3
          go_wp2
          go_ret
          exact ⟨rfl, unhide HB3⟩
      · have HQ : Hid (¬ k < K ∨ (k < K ∧ ¬ k < 100)) := hide (by omega)
        rcases unhide HQ with hq | ⟨hq, hq2⟩
        · have hk1 : ¬ (k : Int) < (K : Int) := by omega
          go_wp2_with fail
          refine (unhide HAW _ (unhide HD).held.2.1).mono ?_
          rintro e w3 ⟨rfl, b3⟩
          have HB3 := hide b3
          clear b3
          go_wp2
          go_ret
          exact ⟨rfl, unhide HB3⟩
        · have hk1 : (k : Int) < (K : Int) := by omega
          have hk2 : ¬ (k : Int) < 100 := by omega
          go_wp2_with fail
          refine (unhide HAW _ (unhide HD).held.2.1).mono ?_
          rintro e w3 ⟨rfl, b3⟩
          have HB3 := hide b3
          clear b3
          go_wp2
          go_ret
          exact ⟨rfl, unhide HB3⟩
  · have HNW := hide (new_no n w (by omega))
    have HRN := hide (rnew_no n w (by omega))
    clear hok
    go_enter Try.func3, Try.ntmps3
    go_wp2_with fail
    refine (unhide HNW).mono ?_
    rintro e w1 ⟨rfl, hw1⟩
    rw [show w1 = w from hw1]
    clear hw1
    go_wp2_with fail
    refine (unhide HRN).mono ?_
    rintro e w1 ⟨rfl, hw1⟩
    rw [show w1 = w from hw1]
    clear hw1
    go_wp2_with fail
    refine (unhide HAW _ (Below.refl _ _)).mono ?_
    rintro e w2 ⟨rfl, b2⟩
    have HB2 := hide b2
    clear b2
    go_wp2
    go_ret
    exact ⟨rfl, unhide HB2⟩

end Go.Proofs.Ytfolnccpnncmiaa
