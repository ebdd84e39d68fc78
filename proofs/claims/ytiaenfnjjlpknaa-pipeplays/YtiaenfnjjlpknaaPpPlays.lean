/-
  PipePlays: call by call as the document's pipe.
-/
import Derived.Test.YtiaenfnjjlpknaaPpBoth
import Derived.Test.YtiaenfnjjlpknaaPpStart
import Derived.Deep.LoopGhost
import Derived.Deep.DeepCutAuto
import Derived.Deep.RegionHeld3
namespace Go.Proofs.Ytiaenfnjjlpknaa
open Go.RowKit

/-- Both pipes, between two calls. -/
structure DP (w W : World) (p q : Nat) (x : Pp) : Prop where
  hp : Hp w W p x
  ref : RAt W q x
  wq : w.heap.size ≤ q
theorem PS.dp {w W : World} {p q b : Nat} {x : Pp} {o : Op15} (H : PS w W p q b x x o) : DP w W p q x := ⟨H.hp, H.ref, H.wq⟩
set_option maxRecDepth 20000 in
set_option maxHeartbeats 16000000 in
theorem plays_walk (v : Value) (L : List Op15) (w : World) (hl : ORow w v L) : Calls Try.prog 3 #[v] w fun e w' => e = .returned (.bool true) ∧ Below w.heap.size w w' := by
  have HAW : Hid (∀ W, Below w.heap.size w W → Calls Try.prog 9 #[] W fun e w' => e = .returned (.bool true) ∧ Below w.heap.size w w') := hide (fun W hW => (awake_any W).mono (fun e w' ⟨h1, h2⟩ => ⟨h1, hW.trans (h2.mono hW.size)⟩))
  obtain ⟨ad, cap, rfl, hp⟩ := hl
  obtain ⟨K, hK⟩ : ∃ K, K = L.length := ⟨_, rfl⟩
  rw [← hK]
  have HP := hide hp
  have HK := hide hK
  have HNW := hide (new_hp (w := w) (W := w) (Below.refl _ _))
  clear hp hK
  go_enter Try.func3, Try.ntmps3
  go_wp2_with fail
  refine (unhide HNW).mono ?_
  rintro e w1 ⟨p, rfl, k1, _⟩
  have K1 := hide k1
  clear k1 HNW
  go_wp2_with fail
  refine (rnew_any w1).mono ?_
  rintro e w2 ⟨q, rfl, h2, h3, h4⟩
  have K2 : Hid (DP w w2 p q np0) := hide ⟨(unhide K1).below h3, h2, Nat.le_trans (unhide K1).bel.size h4⟩
  clear h2 h3 h4 K1
  go_wp2_with fail
  go_loopw [5] (fun i wr => ∃ (k : Nat) (x : Pp), i = .int .i64 (k : Int) ∧ k ≤ 200 ∧ x.r ≤ k + 1 ∧ x.t ≤ k + 1 ∧ Hid (DP w wr p q x)) (fun i _ => K - (intOf i).toNat)
  case atStart => exact ⟨0, np0, rfl, Nat.zero_le _, Nat.le_refl _, Nat.le_refl _, K2⟩
  case round =>
    obtain ⟨k, x, rfl, hk, hbr, hbt, HD⟩ := hrel
    by_cases hlt : k < K ∧ k < 200
    · obtain ⟨y, hx⟩ : ∃ y, L[k]? = some y := ⟨_, List.getElem?_eq_getElem (by have := unhide HK; omega)⟩
      obtain ⟨⟨ga, oa, rfl, hga, hc⟩, hxo⟩ := unhide HP k y hx
      obtain ⟨c0, c1, c2⟩ : OCell wr ga (oa + k * 3) y := by
        have hb := (unhide HD).hp.bel
        exact ⟨(hb.cell (p := ⟨ga, _, none⟩) hga).trans hc.1, (hb.cell (p := ⟨ga, _, none⟩) hga).trans hc.2.1, (hb.cell (p := ⟨ga, _, none⟩) hga).trans hc.2.2⟩
      obtain ⟨ask, nn, dd⟩ := y
      obtain ⟨x1, x2⟩ := hxo
      simp only at c0 c1 c2 x1 x2
      have hk1 : (k : Int) < (K : Int) := by omega
      have hk2 : (k : Int) < 200 := by omega
      have hk0 : (0 : Int) ≤ (k : Int) := by omega
      obtain ⟨D, hD⟩ : ∃ D, D = BA dd := ⟨_, rfl⟩
      obtain ⟨dl, hdl⟩ : ∃ dl, dl = dd.length := ⟨_, rfl⟩
      have hDs : D.size = dl := by rw [hD, hdl]; rfl
      rw [← hD] at c2
      have HDD := hide hD
      clear hx hc hga hD hdl
      go_upto_region 9 with fail
      obtain ⟨WA, hWA⟩ : ∃ WA, WA = wr.alloc (Obj.cells #[Value.int IntKind.i64 ask, Value.int IntKind.i64 nn, Value.string D] 28) := ⟨_, rfl⟩
      obtain ⟨nb, hnb⟩ : ∃ nb, nb = wr.heap.size := ⟨_, rfl⟩
      have PA : Hid (PS w WA p q nb x x ⟨ask, nn, dd⟩) := hide (by
        rw [hWA, hnb, unhide HDD]
        have hb := (Below.refl wr.heap.size wr).alloc (Nat.le_refl _) (Obj.cells #[Value.int IntKind.i64 ask, Value.int IntKind.i64 nn, Value.string (BA dd)] 28)
        exact ⟨(unhide HD).hp.below hb, Blk.below (unhide HD).ref hb (Blk.lt (unhide HD).ref), (unhide HD).wq, (unhide HD).hp.at'.fit, Blk.new _ _ _⟩)
      rw [← hWA, ← hnb]
      clear hWA hnb HD c0 c1 c2
      obtain ⟨e0, e1, e2⟩ := (unhide PA).ob.cells
      simp only at e0 e1 e2
      rw [← unhide HDD] at e2
      by_cases hd : dl ≤ 500
      · have hd1 : ¬ (500 : Int) < (dl : Int) := by omega
        by_cases h0 : ask = 0
        · subst h0
          go_wp2_with fail
          refine ((unhide PA).read nn).mono ?_
          rintro e w3 ⟨rfl, ps3⟩
          have P3 := hide ps3
          clear ps3 e0 e1 e2
          obtain ⟨e0, e1, e2⟩ := (unhide P3).ob.cells
          simp only at e0 e1 e2
          go_wp2_with fail
          refine ((unhide P3).rread nn).mono ?_
          rintro e w4 ⟨rfl, ps4⟩
          have PT := hide ps4
          clear ps4 P3
          clear e0 e1 e2 PA
          go_wp2_with fail
          refine (unhide PT).users.mono ?_
          rintro e w5 ⟨rfl, ps5⟩
          have P5 := hide ps5
          obtain ⟨Y, hY⟩ : ∃ Y : Pp, Y = rdS x nn := ⟨_, rfl⟩
          obtain ⟨s0, hs0⟩ : ∃ s0, s0 = BA Y.s := ⟨_, rfl⟩
          obtain ⟨l0, hl0⟩ : ∃ l0, l0 = Y.s.length := ⟨_, rfl⟩
          have hSs : s0.size = l0 := by rw [hs0, hl0]; rfl
          obtain ⟨r0, hr0⟩ : ∃ r0, r0 = Y.r := ⟨_, rfl⟩
          obtain ⟨t0, ht0⟩ : ∃ t0, t0 = Y.t := ⟨_, rfl⟩
          rw [← hY, ← hr0, ← ht0]
          rw [← hY] at P5
          have HLN : Hid (∀ W, PS w W p q nb Y Y ⟨0, nn, dd⟩ → Calls Try.prog 19 #[.pointer (some ⟨p, 0, none⟩)] W fun e w' => e = .returned (.int .i64 (l0 : Int)) ∧ (w'.cell? ⟨q, 0, none⟩ = some (.string s0) ∧ w'.cell? ⟨q, 1, none⟩ = some (.int .i64 (r0 : Int)) ∧ w'.cell? ⟨q, 2, none⟩ = some (.int .i64 (t0 : Int))) ∧ Hid (PS w w' p q nb Y Y ⟨0, nn, dd⟩)) := hide (fun W hW => hW.len.mono (fun e w' ⟨h1, h2⟩ => by
            rw [show w' = W from h2, hl0, hs0, hr0, ht0]
            exact ⟨h1, ⟨hW.ref.cells.1, hW.ref.cells.2.1, hW.ref.cells.2.2.1⟩, hide hW⟩))
          have z0 : w5.cell? ⟨q, 0, none⟩ = some (.string s0) := by rw [hs0]; exact (unhide P5).ref.cells.1
          have z1 : w5.cell? ⟨q, 1, none⟩ = some (.int .i64 (r0 : Int)) := by rw [hr0]; exact (unhide P5).ref.cells.2.1
          have z2 : w5.cell? ⟨q, 2, none⟩ = some (.int .i64 (t0 : Int)) := by rw [ht0]; exact (unhide P5).ref.cells.2.2.1
          have HBD : Hid (Y.r ≤ k + 1 + 1 ∧ Y.t ≤ k + 1 + 1) := hide (by rw [hY]; rw [(rd_rt x nn).1, (rd_rt x nn).2]; omega)
          clear ps5 PT hY hs0 hl0 hr0 ht0
          go_wp2_with fail
          go_region_held3 (fun w' => w'.cell? ⟨q, 0, none⟩ = some (.string s0) ∧ w'.cell? ⟨q, 1, none⟩ = some (.int .i64 (r0 : Int)) ∧ w'.cell? ⟨q, 2, none⟩ = some (.int .i64 (t0 : Int))) (go_keep) (first
            | (go_at_call 19; refine (unhide HLN _ (by first | exact unhide P5 | exact (unhide P5).below (below_drew _ _))).mono ?_; rintro e w6 ⟨rfl, ⟨y0, y1, y2⟩, P6⟩))
          have PD : Hid (DP w _ p q Y) := hide (unhide P6).dp
          clear P5 P6 HLN
          go_wp2
          go_roundw
          case rel => exact ⟨k + 1, _, by go_num, by omega, (unhide HBD).1, (unhide HBD).2, PD⟩
          case measure => simp [intOf]; omega
        · by_cases h1 : ask = 1
          · subst h1
            go_wp2_with fail
            rw [unhide HDD]
            refine ((unhide PA).write dd).mono ?_
            rintro e w3 ⟨rfl, ps3⟩
            have P3 := hide ps3
            rw [← unhide HDD]
            clear ps3 e0 e1 e2
            obtain ⟨e0, e1, e2⟩ := (unhide P3).ob.cells
            simp only at e0 e1 e2
            rw [← unhide HDD] at e2
            go_wp2_with fail
            rw [unhide HDD]
            refine ((unhide P3).rwrite dd).mono ?_
            rintro e w4 ⟨rfl, ps4⟩
            have PT := hide ps4
            clear ps4 P3
            clear e0 e1 e2 PA
            go_wp2_with fail
            refine (unhide PT).users.mono ?_
            rintro e w5 ⟨rfl, ps5⟩
            have P5 := hide ps5
            obtain ⟨Y, hY⟩ : ∃ Y : Pp, Y = wrS x dd := ⟨_, rfl⟩
            obtain ⟨s0, hs0⟩ : ∃ s0, s0 = BA Y.s := ⟨_, rfl⟩
            obtain ⟨l0, hl0⟩ : ∃ l0, l0 = Y.s.length := ⟨_, rfl⟩
            have hSs : s0.size = l0 := by rw [hs0, hl0]; rfl
            obtain ⟨r0, hr0⟩ : ∃ r0, r0 = Y.r := ⟨_, rfl⟩
            obtain ⟨t0, ht0⟩ : ∃ t0, t0 = Y.t := ⟨_, rfl⟩
            rw [← hY, ← hr0, ← ht0]
            rw [← hY] at P5
            have HLN : Hid (∀ W, PS w W p q nb Y Y ⟨1, nn, dd⟩ → Calls Try.prog 19 #[.pointer (some ⟨p, 0, none⟩)] W fun e w' => e = .returned (.int .i64 (l0 : Int)) ∧ (w'.cell? ⟨q, 0, none⟩ = some (.string s0) ∧ w'.cell? ⟨q, 1, none⟩ = some (.int .i64 (r0 : Int)) ∧ w'.cell? ⟨q, 2, none⟩ = some (.int .i64 (t0 : Int))) ∧ Hid (PS w w' p q nb Y Y ⟨1, nn, dd⟩)) := hide (fun W hW => hW.len.mono (fun e w' ⟨h1, h2⟩ => by
              rw [show w' = W from h2, hl0, hs0, hr0, ht0]
              exact ⟨h1, ⟨hW.ref.cells.1, hW.ref.cells.2.1, hW.ref.cells.2.2.1⟩, hide hW⟩))
            have z0 : w5.cell? ⟨q, 0, none⟩ = some (.string s0) := by rw [hs0]; exact (unhide P5).ref.cells.1
            have z1 : w5.cell? ⟨q, 1, none⟩ = some (.int .i64 (r0 : Int)) := by rw [hr0]; exact (unhide P5).ref.cells.2.1
            have z2 : w5.cell? ⟨q, 2, none⟩ = some (.int .i64 (t0 : Int)) := by rw [ht0]; exact (unhide P5).ref.cells.2.2.1
            have HBD : Hid (Y.r ≤ k + 1 + 1 ∧ Y.t ≤ k + 1 + 1) := hide (by rw [hY]; rw [(wr_rt x dd).1, (wr_rt x dd).2]; omega)
            clear ps5 PT hY hs0 hl0 hr0 ht0
            go_wp2_with fail
            go_region_held3 (fun w' => w'.cell? ⟨q, 0, none⟩ = some (.string s0) ∧ w'.cell? ⟨q, 1, none⟩ = some (.int .i64 (r0 : Int)) ∧ w'.cell? ⟨q, 2, none⟩ = some (.int .i64 (t0 : Int))) (go_keep) (first
              | (go_at_call 19; refine (unhide HLN _ (by first | exact unhide P5 | exact (unhide P5).below (below_drew _ _))).mono ?_; rintro e w6 ⟨rfl, ⟨y0, y1, y2⟩, P6⟩))
            have PD : Hid (DP w _ p q Y) := hide (unhide P6).dp
            clear P5 P6 HLN
            go_wp2
            go_roundw
            case rel => exact ⟨k + 1, _, by go_num, by omega, (unhide HBD).1, (unhide HBD).2, PD⟩
            case measure => simp [intOf]; omega
          · by_cases h2 : ask = 2
            · subst h2
              go_wp2_with fail
              refine ((unhide PA).rjoin (nn.tmod 2 != 0) (by omega) (by omega)).mono ?_
              rintro e w3 ⟨rfl, ps3⟩
              have P3 := hide ps3
              clear ps3 e0 e1 e2
              obtain ⟨e0, e1, e2⟩ := (unhide P3).ob.cells
              simp only at e0 e1 e2
              go_wp2_with fail
              refine ((unhide P3).join (nn.tmod 2 != 0) (by omega) (by omega)).mono ?_
              rintro e w4 ⟨rfl, ps4⟩
              have PT := hide ps4
              clear ps4 P3
              clear e0 e1 e2 PA
              go_wp2_with fail
              refine (unhide PT).users.mono ?_
              rintro e w5 ⟨rfl, ps5⟩
              have P5 := hide ps5
              obtain ⟨Y, hY⟩ : ∃ Y : Pp, Y = joS x (nn.tmod 2 != 0) := ⟨_, rfl⟩
              obtain ⟨s0, hs0⟩ : ∃ s0, s0 = BA Y.s := ⟨_, rfl⟩
              obtain ⟨l0, hl0⟩ : ∃ l0, l0 = Y.s.length := ⟨_, rfl⟩
              have hSs : s0.size = l0 := by rw [hs0, hl0]; rfl
              obtain ⟨r0, hr0⟩ : ∃ r0, r0 = Y.r := ⟨_, rfl⟩
              obtain ⟨t0, ht0⟩ : ∃ t0, t0 = Y.t := ⟨_, rfl⟩
              rw [← hY, ← hr0, ← ht0]
              rw [← hY] at P5
              have HLN : Hid (∀ W, PS w W p q nb Y Y ⟨2, nn, dd⟩ → Calls Try.prog 19 #[.pointer (some ⟨p, 0, none⟩)] W fun e w' => e = .returned (.int .i64 (l0 : Int)) ∧ (w'.cell? ⟨q, 0, none⟩ = some (.string s0) ∧ w'.cell? ⟨q, 1, none⟩ = some (.int .i64 (r0 : Int)) ∧ w'.cell? ⟨q, 2, none⟩ = some (.int .i64 (t0 : Int))) ∧ Hid (PS w w' p q nb Y Y ⟨2, nn, dd⟩)) := hide (fun W hW => hW.len.mono (fun e w' ⟨h1, h2⟩ => by
                rw [show w' = W from h2, hl0, hs0, hr0, ht0]
                exact ⟨h1, ⟨hW.ref.cells.1, hW.ref.cells.2.1, hW.ref.cells.2.2.1⟩, hide hW⟩))
              have z0 : w5.cell? ⟨q, 0, none⟩ = some (.string s0) := by rw [hs0]; exact (unhide P5).ref.cells.1
              have z1 : w5.cell? ⟨q, 1, none⟩ = some (.int .i64 (r0 : Int)) := by rw [hr0]; exact (unhide P5).ref.cells.2.1
              have z2 : w5.cell? ⟨q, 2, none⟩ = some (.int .i64 (t0 : Int)) := by rw [ht0]; exact (unhide P5).ref.cells.2.2.1
              have HBD : Hid (Y.r ≤ k + 1 + 1 ∧ Y.t ≤ k + 1 + 1) := hide (by rw [hY]; have := jo_rt x (nn.tmod 2 != 0); omega)
              clear ps5 PT hY hs0 hl0 hr0 ht0
              go_wp2_with fail
              go_region_held3 (fun w' => w'.cell? ⟨q, 0, none⟩ = some (.string s0) ∧ w'.cell? ⟨q, 1, none⟩ = some (.int .i64 (r0 : Int)) ∧ w'.cell? ⟨q, 2, none⟩ = some (.int .i64 (t0 : Int))) (go_keep) (first
                | (go_at_call 19; refine (unhide HLN _ (by first | exact unhide P5 | exact (unhide P5).below (below_drew _ _))).mono ?_; rintro e w6 ⟨rfl, ⟨y0, y1, y2⟩, P6⟩))
              have PD : Hid (DP w _ p q Y) := hide (unhide P6).dp
              clear P5 P6 HLN
              go_wp2
              go_roundw
              case rel => exact ⟨k + 1, _, by go_num, by omega, (unhide HBD).1, (unhide HBD).2, PD⟩
              case measure => simp [intOf]; omega
            · have g0 : (ask == 0) = false := by simpa using h0
              have g1 : (ask == 1) = false := by simpa using h1
              have g2 : (ask == 2) = false := by simpa using h2
              clear h0 h1 h2
              have HG : Hid (∀ W, PS w W p q nb x x ⟨ask, nn, dd⟩ → Calls Try.prog 16 #[.pointer (some ⟨p, 0, none⟩), .bool (nn.tmod 2 != 0)] W fun e w' => e = .returned (.int .i64 (leE x (nn.tmod 2 != 0))) ∧ w'.cell? ⟨nb, 1, none⟩ = some (.int .i64 nn) ∧ Hid (PS w w' p q nb (leS x (nn.tmod 2 != 0)) x ⟨ask, nn, dd⟩)) := hide (fun W hW => (hW.leave (nn.tmod 2 != 0)).mono (fun e w' ⟨h1, h2⟩ => ⟨h1, h2.ob.cells.2.1, hide h2⟩))
              have HG2 : Hid (∀ W, PS w W p q nb (leS x (nn.tmod 2 != 0)) x ⟨ask, nn, dd⟩ → Calls Try.prog 17 #[.pointer (some ⟨q, 0, none⟩), .bool (nn.tmod 2 != 0)] W fun e w' => e = .returned (.int .i64 (leE x (nn.tmod 2 != 0))) ∧ w'.cell? ⟨nb, 1, none⟩ = some (.int .i64 nn) ∧ Hid (PS w w' p q nb (leS x (nn.tmod 2 != 0)) (leS x (nn.tmod 2 != 0)) ⟨ask, nn, dd⟩)) := hide (fun W hW => (hW.rleave (nn.tmod 2 != 0)).mono (fun e w' ⟨h1, h2⟩ => ⟨h1, h2.ob.cells.2.1, hide h2⟩))
              go_wp2_with fail
              go_region_held3 (fun w' => w'.cell? ⟨nb, 1, none⟩ = some (.int .i64 nn)) (go_keep) (first
                | (go_at_call 16; refine (unhide HG _ (by first | exact unhide PA | exact (unhide PA).below (below_drew _ _))).mono ?_; rintro e w3 ⟨rfl, d1, P3⟩)
                | (go_at_call 17; refine (unhide HG2 _ (by first | exact unhide P3 | exact (unhide P3).below (below_drew _ _))).mono ?_; rintro e w4 ⟨rfl, d2, P4⟩))
              have PT := P4
              clear P3 P4 HG HG2 d1 d2
              clear e0 e1 e2 PA
              go_wp2_with fail
              refine (unhide PT).users.mono ?_
              rintro e w5 ⟨rfl, ps5⟩
              have P5 := hide ps5
              obtain ⟨Y, hY⟩ : ∃ Y : Pp, Y = leS x (nn.tmod 2 != 0) := ⟨_, rfl⟩
              obtain ⟨s0, hs0⟩ : ∃ s0, s0 = BA Y.s := ⟨_, rfl⟩
              obtain ⟨l0, hl0⟩ : ∃ l0, l0 = Y.s.length := ⟨_, rfl⟩
              have hSs : s0.size = l0 := by rw [hs0, hl0]; rfl
              obtain ⟨r0, hr0⟩ : ∃ r0, r0 = Y.r := ⟨_, rfl⟩
              obtain ⟨t0, ht0⟩ : ∃ t0, t0 = Y.t := ⟨_, rfl⟩
              rw [← hY, ← hr0, ← ht0]
              rw [← hY] at P5
              have HLN : Hid (∀ W, PS w W p q nb Y Y ⟨ask, nn, dd⟩ → Calls Try.prog 19 #[.pointer (some ⟨p, 0, none⟩)] W fun e w' => e = .returned (.int .i64 (l0 : Int)) ∧ (w'.cell? ⟨q, 0, none⟩ = some (.string s0) ∧ w'.cell? ⟨q, 1, none⟩ = some (.int .i64 (r0 : Int)) ∧ w'.cell? ⟨q, 2, none⟩ = some (.int .i64 (t0 : Int))) ∧ Hid (PS w w' p q nb Y Y ⟨ask, nn, dd⟩)) := hide (fun W hW => hW.len.mono (fun e w' ⟨h1, h2⟩ => by
                rw [show w' = W from h2, hl0, hs0, hr0, ht0]
                exact ⟨h1, ⟨hW.ref.cells.1, hW.ref.cells.2.1, hW.ref.cells.2.2.1⟩, hide hW⟩))
              have z0 : w5.cell? ⟨q, 0, none⟩ = some (.string s0) := by rw [hs0]; exact (unhide P5).ref.cells.1
              have z1 : w5.cell? ⟨q, 1, none⟩ = some (.int .i64 (r0 : Int)) := by rw [hr0]; exact (unhide P5).ref.cells.2.1
              have z2 : w5.cell? ⟨q, 2, none⟩ = some (.int .i64 (t0 : Int)) := by rw [ht0]; exact (unhide P5).ref.cells.2.2.1
              have HBD : Hid (Y.r ≤ k + 1 + 1 ∧ Y.t ≤ k + 1 + 1) := hide (by rw [hY]; have := le_rt x (nn.tmod 2 != 0); omega)
              clear ps5 PT hY hs0 hl0 hr0 ht0
              go_wp2_with fail
              go_region_held3 (fun w' => w'.cell? ⟨q, 0, none⟩ = some (.string s0) ∧ w'.cell? ⟨q, 1, none⟩ = some (.int .i64 (r0 : Int)) ∧ w'.cell? ⟨q, 2, none⟩ = some (.int .i64 (t0 : Int))) (go_keep) (first
                | (go_at_call 19; refine (unhide HLN _ (by first | exact unhide P5 | exact (unhide P5).below (below_drew _ _))).mono ?_; rintro e w6 ⟨rfl, ⟨y0, y1, y2⟩, P6⟩))
              have PD : Hid (DP w _ p q Y) := hide (unhide P6).dp
              clear P5 P6 HLN
              go_wp2
              go_roundw
              case rel => exact ⟨k + 1, _, by go_num, by omega, (unhide HBD).1, (unhide HBD).2, PD⟩
              case measure => simp [intOf]; omega
      · have hd1 : (500 : Int) < (dl : Int) := by omega
        go_wp2_with fail
        refine (unhide HAW _ (unhide PA).hp.bel).mono ?_
        rintro e w3 ⟨rfl, b3⟩
        have HB3 := hide b3
        clear b3
        go_wp2
        go_ret
        exact ⟨rfl, unhide HB3⟩
    · have hcs : ¬ (k : Int) < (K : Int) ∨ ((k : Int) < (K : Int) ∧ ¬ (k : Int) < 200) := by omega
      rcases hcs with hk1 | ⟨hk1, hk2⟩
      all_goals
        go_wp2_with fail
        refine (unhide HAW _ (unhide HD).hp.bel).mono ?_
        rintro e w3 ⟨rfl, b3⟩
        have HB3 := hide b3
        clear b3
        go_wp2
        go_ret
        exact ⟨rfl, unhide HB3⟩

end Go.Proofs.Ytiaenfnjjlpknaa
