/-
  The document's table: Cut.
-/
import Derived.Test.YtcfhgjlihifmnaaIRef3
import Derived.Test.YtcfhgjlihifmnaaITxt
namespace Go.Proofs.Ytcfhgjlihifmnaa
open Go.RowKit Go.Maps

/-- One part comes to have a block, or loses it. -/
theorem RL.hasSet {w : World} {q nb : Nat} {K : RLay} {T : TB} {Y : Nat → Prop} (H : RL w q K T nb) (hin : K.In T q Y) {i m : Nat} {x : Nd} (hi : T[i]? = some (some x)) (hm : m < 64) (v : Bool) :
    RAt (w.setCell ⟨K.h (i + 1), m, none⟩ (.bool v)) q Y (T.set i (some { x with has := fun k => if k = m then v else x.has k })) nb ∧ GrownS w (w.setCell ⟨K.h (i + 1), m, none⟩ (.bool v)) Y := by
  have hg : GrownS w (w.setCell ⟨K.h (i + 1), m, none⟩ (.bool v)) (fun k => k = K.h (i + 1)) := GrownS.of (grown_setCell w _ _) (fun k e => by simpa using e)
  have hst := H.step hi (o' := some { x with has := fun k => if k = m then v else x.has k }) (h' := K.h (i + 1)) (c' := K.hc (i + 1)) hg (fun k _ e => .inr ⟨x, rfl, e⟩) (fun cs hr hold => ⟨cs, hr.grownS hg (fun e => (H.ne.2 i x hi).2 e.symm), rfl, fun j hj => by
    rw [hold j hj]
    match j, hj with
    | 0, _ => rfl
    | 1, _ => rfl
    | 2, _ => rfl
    | 3, _ => rfl
    | 4, _ => rfl, fun _ _ => rfl⟩) (fun x2 e2 => by
    injection e2 with e2
    subst e2
    obtain ⟨ds, d1, d2, d3⟩ := H.has i x hi
    refine ⟨ds.setIfInBounds m (.bool v), d1.set m _, by simpa using d2, fun k hk => ?_⟩
    by_cases e : k = m
    · subst e
      rw [Array.getElem?_setIfInBounds_self_of_lt (by omega)]
      show _ = some (Value.bool (if k = k then v else x.has k))
      rw [if_pos rfl]
    · rw [Array.getElem?_setIfInBounds_ne (fun h => e h.symm), d3 k hk]
      show _ = some (Value.bool (if k = m then v else x.has k))
      rw [if_neg e]) (fun x2 _ j y hj hy => H.apart i j x y hi hy (fun e => hj e.symm))
  exact ⟨⟨_, hst, hin.step hi (fun _ _ => hin.each i x hi)⟩, hg.mono (fun k _ e => by rw [show k = K.h (i + 1) from e]; exact hin.each i x hi)⟩
/-- A node that is cut, whose first parts are seen to. -/
def cutJ (x : Nd) (s j : Nat) : Nd := { x with size := s, byt := fun i => if i < s then x.byt i else 0, has := fun m => x.has m && (decide (64 * m < s) || decide (j ≤ m)) }
theorem cutJ_next_a {x : Nd} {s j : Nat} (h : s ≤ 64 * j) : { cutJ x s j with has := fun k => if k = j then false else (cutJ x s j).has k } = cutJ x s (j + 1) := by
  unfold cutJ
  dsimp only
  congr 1
  funext k
  by_cases e : k = j
  · subst e
    rw [if_pos rfl, show decide (64 * k < s) = false by simp; omega, show decide (k + 1 ≤ k) = false by simp]
    simp
  · rw [if_neg e]
    by_cases h1 : j ≤ k
    · rw [show decide (j ≤ k) = true by simpa using h1, show decide (j + 1 ≤ k) = true by simp; omega]
    · rw [show decide (j ≤ k) = false by simpa using h1, show decide (j + 1 ≤ k) = false by simp; omega]
theorem cutJ_next_b {x : Nd} {s j : Nat} (h : 64 * j < s) : cutJ x s j = cutJ x s (j + 1) := by
  unfold cutJ
  congr 1
  funext k
  by_cases e : k = j
  · subst e
    rw [show decide (64 * k < s) = true by simpa using h]
    simp
  · by_cases h1 : j ≤ k
    · rw [show decide (j ≤ k) = true by simpa using h1, show decide (j + 1 ≤ k) = true by simp; omega]
    · rw [show decide (j ≤ k) = false by simpa using h1, show decide (j + 1 ≤ k) = false by simp; omega]
theorem cutJ_end {x : Nd} (hx : x.Good) (s : Nat) : cutJ x s 64 = cutN x s := by
  unfold cutJ cutN
  congr 1
  funext k
  cases hk : x.has k with
  | false => rfl
  | true =>
    have h1 := hx.has k hk
    have h2 := hx.size
    rw [show decide (64 ≤ k) = false by simp; omega]
    simp
theorem cutJ_dat (x : Nd) (hz : ∀ j, x.size ≤ j → x.byt j = 0) (s j : Nat) : datOf (cutJ x s j) = ((datOf x) ++ List.replicate (s - x.size) 0).take s := by
  apply List.ext_getElem
  · rw [datOf_len, List.length_take, List.length_append, datOf_len, List.length_replicate]
    show s = _
    omega
  · intro i h1 h2
    rw [datOf_len] at h1
    have h1 : i < s := h1
    simp only [datOf, List.getElem_map, List.getElem_range, List.getElem_take]
    show (if i < s then x.byt i else 0) = _
    rw [if_pos h1]
    by_cases h3 : i < x.size
    · rw [List.getElem_append_left (by simpa using h3)]
      simp
    · rw [List.getElem_append_right (by simp; omega), List.getElem_replicate]
      exact hz i (by omega)

set_option maxRecDepth 20000 in
set_option maxHeartbeats 2000000 in
theorem rcut_any {w : World} {q nb : Nat} {Y : Nat → Prop} {T : TB} (H : RAt w q Y T nb) (hgd : ∀ (k : Nat) (x : Nd), T[k]? = some (some x) → x.Good) (i s : Int) (hb : -9223372036854775808 ≤ i ∧ i ≤ 9223372036854775807) :
    Calls Try.prog 42 #[.pointer (some ⟨q, 0, none⟩), .int .i64 i, .int .i64 s] w fun e w' => e = .returned (.int .i64 (cutE T i s)) ∧ RAt w' q Y (cutT T i s) nb ∧ GrownS w w' Y := by
  have HH : Hid (RAt w q Y T nb ∧ GrownS w w Y) := hide ⟨H, grownS_of_below (Below.refl _ _)⟩
  obtain ⟨K, HL, hin⟩ := H
  have HI := hide (ris_any HL (fun k x hx => (hgd k x hx).kind1) i hb)
  unfold cutE cutT
  cases hx : ndAt T i with
  | none =>
    rw [hx] at HI
    clear HL hx hin
    go_enter Try.func42, Try.ntmps42
    go_wp2_with fail
    refine (unhide HI).mono ?_
    rintro e w1 ⟨rfl, hw1⟩
    rw [show w1 = w from hw1]
    clear hw1
    go_wp2
    go_ret
    exact ⟨rfl, unhide HH⟩
  | some x =>
    rw [hx] at HI
    obtain ⟨k, rfl, hk, hkn⟩ := ndAt_some hx
    rw [plc_of]
    dsimp only
    by_cases h1 : s < 0
    · rw [if_pos h1, if_pos (.inl h1)]
      clear HL hx hin hk hkn
      go_enter Try.func42, Try.ntmps42
      go_wp2_with fail
      refine (unhide HI).mono ?_
      rintro e w1 ⟨rfl, hw1⟩
      rw [show w1 = w from hw1]
      clear hw1
      go_wp2
      go_ret
      exact ⟨rfl, unhide HH⟩
    · by_cases h2 : 4096 < s
      · rw [if_neg h1, if_pos h2, if_pos (.inr h2)]
        clear HL hx hin hk hkn
        go_enter Try.func42, Try.ntmps42
        go_wp2_with fail
        refine (unhide HI).mono ?_
        rintro e w1 ⟨rfl, hw1⟩
        rw [show w1 = w from hw1]
        clear hw1
        go_wp2
        go_ret
        exact ⟨rfl, unhide HH⟩
      · rw [if_neg h1, if_neg h2, if_neg (by omega)]
        obtain ⟨s', rfl⟩ : ∃ s' : Nat, s = s' := ⟨s.toNat, by omega⟩
        rw [show ((s' : Int)).toNat = s' by omega]
        have hgx := hgd k x hk
        have hsz := hgx.size
        obtain ⟨RX, hRX⟩ : ∃ P : World → Nat → Prop, P = fun wr j => RAt wr q Y (T.set k (some (cutJ x s' j))) nb ∧ GrownS w wr Y := ⟨_, rfl⟩
        have HRA : Hid (∀ wr j, j < 64 → RX wr j → ∃ r2 c2 h2 hc2, wr.cell? ⟨q, 0, none⟩ = some (.slice (some ⟨r2, 0, none⟩) (T.length + 1) c2) ∧ wr.cell? ⟨r2, (k + 1) * 5 + 4, none⟩ = some (.slice (some ⟨h2, 0, none⟩) 64 hc2) ∧ (∃ v, wr.cell? ⟨h2, j, none⟩ = some v) ∧ wr.frozen? ⟨h2, j, none⟩ = false ∧ (s' ≤ 64 * j → RX (wr.setCell ⟨h2, j, none⟩ (.bool false)) (j + 1))) := hide (fun wr j hj h => by
          rw [hRX] at h ⊢
          obtain ⟨⟨K2, a1, a2⟩, a3⟩ := h
          obtain ⟨ds, d1, d2, d3⟩ := a1.has k _ (set_same hk)
          have a4 := a1.tab.cell 0 rfl
          change _ = some (Value.slice (some ⟨K2.r, 0, none⟩) ((T.set k (some (cutJ x s' j))).length + 1) K2.c) at a4
          rw [List.length_set] at a4
          refine ⟨K2.r, K2.c, K2.h (k + 1), K2.hc (k + 1), a4, (a1.cellN (set_same hk) (j := 4) (by decide)).1, ⟨_, d1.cell j (d3 j hj)⟩, d1.frozen j, fun hge => ?_⟩
          obtain ⟨b1, b2⟩ := a1.hasSet a2 (set_same hk) hj false
          rw [List.set_set, cutJ_next_a hge] at b1
          exact ⟨b1, a3.trans b2⟩)
        have HRB : Hid (∀ wr j, 64 * j < s' → RX wr j → RX wr (j + 1)) := hide (fun wr j hj h => by
          rw [hRX] at h ⊢
          show RAt wr q Y (T.set k (some (cutJ x s' (j + 1)))) nb ∧ GrownS w wr Y
          rw [← cutJ_next_b hj]
          exact h)
        have HRE : Hid (∀ wr, RX wr 64 → RAt wr q Y (T.set k (some (cutN x s'))) nb ∧ GrownS w wr Y) := hide (fun wr h => by
          rw [hRX] at h
          rw [cutJ_end hgx] at h
          exact h)
        have hS0 : ∀ (W : World) (K2 : RLay), RL W q K2 T nb → K2.In T q Y → GrownS w W Y → RX (W.setCell ⟨K2.r, (k + 1) * 5 + 3, none⟩ (.string (BA (datOf (cutJ x s' 0))))) 0 := fun W K2 b1 b2 b3 => by
          rw [hRX]
          have hh0 : (cutJ x s' 0).has = x.has := by
            funext m
            show (x.has m && (decide (64 * m < s') || decide (0 ≤ m))) = x.has m
            simp
          obtain ⟨e1, e2⟩ := b1.field b2 hk (f := 3) (x' := cutJ x s' 0) (by decide) rfl (fun j hj hne => by
            match j, hj, hne with
            | 0, _, _ => rfl
            | 1, _, _ => rfl
            | 2, _, _ => rfl
            | 3, _, h => exact absurd rfl h
            | 4, _, _ => rfl) hh0
          exact ⟨e1, b3.trans e2⟩
        have hRXb : ∀ (W W2 : World), RX W 0 → Below W.heap.size W W2 → RX W2 0 := fun W W2 h hb2 => by
          rw [hRX] at h ⊢
          exact ⟨h.1.below hb2, h.2.trans (grownS_of_below hb2)⟩
        have q0 := HL.tab.cell 0 rfl
        change _ = some (Value.slice (some ⟨K.r, 0, none⟩) (T.length + 1) K.c) at q0
        obtain ⟨c3, f3⟩ := HL.cellN hk (j := 3) (by decide)
        change _ = some (Value.string (BA (datOf x))) at c3
        have hmx := HL.max
        have hD := cutJ_dat x hgx.zero s' 0
        obtain ⟨dd, hdd⟩ : ∃ dd, dd = BA (datOf x) := ⟨_, rfl⟩
        have hds : dd.size = x.size := by rw [hdd]; exact datOf_len x
        rw [← hdd] at c3
        obtain ⟨R, hR⟩ : ∃ R, R = BA (datOf (cutJ x s' 0)) := ⟨_, rfl⟩
        rw [← hR] at hS0
        have hrl := HL.lt.r
        have h3 : (k : Int) + 1 < (T.length : Int) + 1 := by omega
        have h4 : (0 : Int) ≤ (k : Int) + 1 := by omega
        have h5 : (0 : Int) ≤ (s' : Int) := by omega
        by_cases hgt : x.size < s'
        · have hgt1 : (x.size : Int) < (s' : Int) := by omega
          obtain ⟨zn, hzn⟩ : ∃ zn, zn = s' - x.size := ⟨_, rfl⟩
          have hzI : (s' : Int) - (x.size : Int) = (zn : Int) := by omega
          obtain ⟨zc, mk, cv, _⟩ := zeros_run zn (by omega)
          obtain ⟨Z1, hZ1⟩ : ∃ Z1, Z1 = BA (List.replicate zn 0) := ⟨_, rfl⟩
          have hZs : Z1.size = zn := by rw [hZ1, BA_size, List.length_replicate]
          simp only [← hZ1] at cv
          obtain ⟨E1, hE1⟩ : ∃ E1, dd ++ Z1 = E1 := ⟨_, rfl⟩
          have hEL : E1 = BA ((datOf x) ++ List.replicate (s' - x.size) 0) := by rw [← hE1, hdd, hZ1, BA_add, hzn]
          have hEs : E1.size = s' := by rw [hEL, BA_size, List.length_append, datOf_len, List.length_replicate]; omega
          have hex : E1.extract 0 s' = R := by rw [hEL, hR, hD]; exact ext_take _ _
          have hbz : Below w.heap.size w (w.alloc (.cells zc 5)) := (Below.refl _ _).alloc (Nat.le_refl _) _
          have HLz := HL.grownS (S := fun _ => False) (grownS_of_below hbz) (HL.lt.mono (fun _ _ e => e))
          have hs1 := hS0 _ K HLz hin (grownS_of_below hbz)
          rw [World.setCell_alloc_past (w := w) _ K.r _ _ hrl] at hs1
          have HS0 : Hid (RX (((w.setCell ⟨K.r, (k + 1) * 5 + 3, none⟩ (.string R)).alloc (.cells zc 5)).drew) 0) := hide (hRXb _ _ hs1 (below_drew _ 1))
          have q0z := cell_alloc q0 (.cells zc 5)
          have c3z := cell_alloc c3 (.cells zc 5)
          have f3z := (HLz.cellN hk (j := 3) (by decide)).2
          have hzb : zn ≤ 4096 := by omega
          have hs96 : s' ≤ 4096 := by omega
          obtain ⟨n, hn⟩ : ∃ n, n = T.length := ⟨_, rfl⟩
          obtain ⟨r, hr⟩ : ∃ r, r = K.r := ⟨_, rfl⟩
          obtain ⟨c, hc⟩ : ∃ c, c = K.c := ⟨_, rfl⟩
          obtain ⟨sz, hsz2⟩ : ∃ sz, sz = x.size := ⟨_, rfl⟩
          rw [← hn, ← hr, ← hc] at q0 q0z
          rw [← hr] at c3 f3 c3z f3z HS0 hrl
          rw [← hn] at HRA h3 hmx
          rw [← hsz2] at hds hgt1 hzI hsz
          clear HL hx hin hk hkn hgx hRX hS0 hRXb hD hdd hR hgt hzn hZ1 hEL hbz HLz hs1 hn hr hc hsz2 hgd HH
          go_enter Try.func42, Try.ntmps42
          go_wp2_with fail
          refine (unhide HI).mono ?_
          rintro e w1 ⟨rfl, hw1⟩
          rw [show w1 = w from hw1]
          clear hw1
          go_wp2_with fail
          go_region
          go_wp2_with fail
          clear q0 q0z c3 f3 c3z f3z
          go_loopw [8] (fun v wr => ∃ j : Nat, v = .int .i64 (j : Int) ∧ j ≤ 64 ∧ Hid (RX wr j)) (fun v _ => 64 - (intOf v).toNat)
          case atStart => exact ⟨0, rfl, by omega, HS0⟩
          case round =>
            clear HS0
            obtain ⟨j, rfl, hj, HR⟩ := hrel
            by_cases hlt : j < 64
            · have hlt1 : (j : Int) < 64 := by omega
              have h0 : (0 : Int) ≤ (j : Int) := by omega
              by_cases hge : s' ≤ 64 * j
              · have hge1 : (s' : Int) ≤ 64 * (j : Int) := by omega
                obtain ⟨r2, c2, h2, hc2, z0, z1, ⟨v2, z2⟩, z3, z4⟩ := unhide HRA wr j hlt (unhide HR)
                have HZ := hide (z4 hge)
                clear z4
                go_wp2
                go_roundw
                case rel => exact ⟨j + 1, by go_num, by omega, HZ⟩
                case measure => simp [intOf]; omega
              · have hge1 : ¬ (s' : Int) ≤ 64 * (j : Int) := by omega
                have HZ := hide (unhide HRB wr j (by omega) (unhide HR))
                go_wp2
                go_roundw
                case rel => exact ⟨j + 1, by go_num, by omega, HZ⟩
                case measure => simp [intOf]; omega
            · have hlt1 : ¬ (j : Int) < 64 := by omega
              have HZ := hide (unhide HRE wr (by obtain rfl : j = 64 := by omega
                                                 exact unhide HR))
              go_wp2
              go_ret
              exact ⟨rfl, unhide HZ⟩
        · have hgt1 : ¬ (x.size : Int) < (s' : Int) := by omega
          have hex : dd.extract 0 s' = R := by
            rw [hdd, hR, hD, show s' - x.size = 0 by omega, show List.replicate 0 (0 : UInt8) = [] from rfl, List.append_nil]
            exact ext_take _ _
          have hsd : (s' : Int) ≤ (x.size : Int) := by omega
          have HS0 : Hid (RX ((w.setCell ⟨K.r, (k + 1) * 5 + 3, none⟩ (.string R)).drew) 0) := hide (hRXb _ _ (hS0 w K HL hin (grownS_of_below (Below.refl _ _))) (below_drew _ 1))
          obtain ⟨n, hn⟩ : ∃ n, n = T.length := ⟨_, rfl⟩
          obtain ⟨r, hr⟩ : ∃ r, r = K.r := ⟨_, rfl⟩
          obtain ⟨c, hc⟩ : ∃ c, c = K.c := ⟨_, rfl⟩
          obtain ⟨sz, hsz2⟩ : ∃ sz, sz = x.size := ⟨_, rfl⟩
          rw [← hn, ← hr, ← hc] at q0
          rw [← hr] at c3 f3 HS0 hrl
          rw [← hn] at HRA h3 hmx
          rw [← hsz2] at hds hgt1 hsd hsz
          have hs96 : s' ≤ 4096 := by omega
          clear HL hx hin hk hkn hgx hRX hS0 hRXb hD hdd hR hgt hn hr hc hsz2 hgd HH
          go_enter Try.func42, Try.ntmps42
          go_wp2_with fail
          refine (unhide HI).mono ?_
          rintro e w1 ⟨rfl, hw1⟩
          rw [show w1 = w from hw1]
          clear hw1
          go_wp2_with fail
          go_region
          go_wp2_with fail
          clear q0 c3 f3
          go_loopw [8] (fun v wr => ∃ j : Nat, v = .int .i64 (j : Int) ∧ j ≤ 64 ∧ Hid (RX wr j)) (fun v _ => 64 - (intOf v).toNat)
          case atStart => exact ⟨0, rfl, by omega, HS0⟩
          case round =>
            clear HS0
            obtain ⟨j, rfl, hj, HR⟩ := hrel
            by_cases hlt : j < 64
            · have hlt1 : (j : Int) < 64 := by omega
              have h0 : (0 : Int) ≤ (j : Int) := by omega
              by_cases hge : s' ≤ 64 * j
              · have hge1 : (s' : Int) ≤ 64 * (j : Int) := by omega
                obtain ⟨r2, c2, h2, hc2, z0, z1, ⟨v2, z2⟩, z3, z4⟩ := unhide HRA wr j hlt (unhide HR)
                have HZ := hide (z4 hge)
                clear z4
                go_wp2
                go_roundw
                case rel => exact ⟨j + 1, by go_num, by omega, HZ⟩
                case measure => simp [intOf]; omega
              · have hge1 : ¬ (s' : Int) ≤ 64 * (j : Int) := by omega
                have HZ := hide (unhide HRB wr j (by omega) (unhide HR))
                go_wp2
                go_roundw
                case rel => exact ⟨j + 1, by go_num, by omega, HZ⟩
                case measure => simp [intOf]; omega
            · have hlt1 : ¬ (j : Int) < 64 := by omega
              have HZ := hide (unhide HRE wr (by obtain rfl : j = 64 := by omega
                                                 exact unhide HR))
              go_wp2
              go_ret
              exact ⟨rfl, unhide HZ⟩

end Go.Proofs.Ytcfhgjlihifmnaa
