/-
  copied; Copy.
-/
import Derived.Test.YtcfhgjlihifmnaaINew
import Derived.Test.YtcfhgjlihifmnaaIGive
import Derived.Test.YtcfhgjlihifmnaaClone
namespace Go.Proofs.Ytcfhgjlihifmnaa
open Go.RowKit Go.Maps

set_option maxRecDepth 20000 in
theorem copied_nil (w : World) : Calls Try.prog 31 #[.pointer none] w fun e w' => e = .returned (.pointer none) ∧ w' = w := by
  go_enter Try.func31, Try.ntmps31
  go_wp2
  go_ret
  exact ⟨rfl, rfl⟩
set_option maxRecDepth 20000 in
set_option maxHeartbeats 1000000 in
theorem copied_any {w : World} {q m : Nat} {x : Nd} {pf : PF} (H : NAt w q m x pf) : Calls Try.prog 31 #[.pointer (some ⟨q, 0, none⟩)] w fun e w' => e = .returned (.pointer (some ⟨w.heap.size, 0, none⟩)) ∧ Hid (NAt w' w.heap.size (w.heap.size + 1) x pf ∧ Below w.heap.size w w' ∧ w'.heap.size = w.heap.size + 2) := by
  obtain ⟨hb, D, hD, hR⟩ := H
  have hql := hb.lt
  have c0 := hb.cell 0 rfl
  have c1 := hb.cell 1 rfl
  have c2 := hb.cell 2 rfl
  have c3 := hb.cell 3 rfl
  have c4 := hb.cell 4 rfl
  change _ = some (Value.int .i64 (x.names : Int)) at c0
  change _ = some (Value.int .i64 (x.users : Int)) at c1
  change _ = some (Value.int .i64 (x.kind : Int)) at c2
  change _ = some (Value.int .i64 (x.size : Int)) at c3
  change _ = some (Value.map (some m)) at c4
  obtain ⟨w1, hw1⟩ : ∃ w1, w1 = w.alloc (.cells #[.int .i64 (x.names : Int), .int .i64 (x.users : Int), .int .i64 (x.kind : Int), .int .i64 (x.size : Int), .map (some m)] 80) := ⟨_, rfl⟩
  have b1 : Below w.heap.size w w1 := by rw [hw1]; exact (Below.refl _ _).alloc (Nat.le_refl _) _
  have s1 : w1.heap.size = w.heap.size + 1 := by rw [hw1]; simp
  have k1 : Blk w1 w.heap.size 80 #[.int .i64 (x.names : Int), .int .i64 (x.users : Int), .int .i64 (x.kind : Int), .int .i64 (x.size : Int), .map (some m)] := by rw [hw1]; exact Blk.new _ _ _
  have HC : Hid (Calls Try.prog 55 #[.map (some m)] w1 fun e w' => e = .returned (.map (some (w.heap.size + 1))) ∧ (w'.cell? ⟨w.heap.size, 4, none⟩ = some (.map (some m)) ∧ w'.frozen? ⟨w.heap.size, 4, none⟩ = false) ∧ Hid (NAt (w'.setCell ⟨w.heap.size, 4, none⟩ (.map (some (w.heap.size + 1)))) w.heap.size (w.heap.size + 1) x pf ∧ Below w.heap.size w (w'.setCell ⟨w.heap.size, 4, none⟩ (.map (some (w.heap.size + 1)))) ∧ (w'.setCell ⟨w.heap.size, 4, none⟩ (.map (some (w.heap.size + 1)))).heap.size = w.heap.size + 2)) := hide (by
    have h1 := (ownsMap_grownS hD (grownS_of_below (S := fun _ => False) b1) (fun e => e))
    obtain ⟨es, clock, hb1, F, hs, hDe⟩ := h1
    refine (AnyW.maps_Clone Try.cloneM m es clock w1 hb1).mono ?_
    rintro e w' ⟨h2, h3⟩
    subst h3
    have k2 := k1.alloc (.map es clock)
    have hsz : (w1.alloc (.map es clock)).heap.size = w.heap.size + 2 := by simp; omega
    refine ⟨by rw [h2, s1], ⟨k2.cell 4 rfl, k2.frozen 4⟩, hide ⟨⟨k2.set 4 _, D, ?_, hR⟩, ?_, by simp; omega⟩⟩
    · have h4 : (w1.alloc (.map es clock)).ownsMap Try.prog 3 PE w1.heap.size (Maps.size D) D := ⟨es, clock, (MapKept.heap_alloc w1 _).1, F, hs, hDe⟩
      rw [s1] at h4
      exact h4.setCell (a := ⟨w.heap.size, 4, none⟩) (by simp) _
    · have h5 : Below w.heap.size w (w1.alloc (.map es clock)) := b1.alloc b1.size _
      exact h5.setCell (p := ⟨w.heap.size, 4, none⟩) (Nat.le_refl _) _)
  have d4 : w1.cell? ⟨q, 4, none⟩ = some (.map (some m)) := by rw [hw1]; exact cell_alloc c4 _
  have HW1 : Hid (w1 = w.alloc (.cells #[.int .i64 (x.names : Int), .int .i64 (x.users : Int), .int .i64 (x.kind : Int), .int .i64 (x.size : Int), .map (some m)] 80)) := hide hw1
  clear hb hD hR b1 s1 k1 hw1
  go_enter Try.func31, Try.ntmps31
  go_wp2_with fail
  rw [← unhide HW1]
  refine (unhide HC).mono ?_
  rintro e w2 ⟨rfl, ⟨e1, e2⟩, HX⟩
  go_wp2
  go_ret
  exact ⟨rfl, HX⟩

set_option maxRecDepth 20000 in
theorem tcopy_nil (w : World) : Calls Try.prog 12 #[.pointer none] w fun e w' => e = .returned (.pointer none) ∧ w' = w := by
  go_enter Try.func12, Try.ntmps12
  go_wp2
  go_ret
  exact ⟨rfl, rfl⟩
theorem TL.below' {w w' : World} {p : Nat} {L : Lay} {T : TB} (H : TL w p L T) (hb : Below w.heap.size w w') : TL w' p L T :=
  H.grownS (S := fun _ => False) (grownS_of_below hb) (H.lt.mono (fun _ _ e => e))
/-- How far Copy is: the first j nodes are copied. -/
structure CP (w wr : World) (T : TB) (f : Nat → PF) (j : Nat) (q' m' : Nat → Nat) : Prop where
  bel : Below w.heap.size w wr
  row : ∃ cs, Blk wr w.heap.size 70 cs ∧ cs.size = T.length ∧ ∀ i o, T[i]? = some o → cs[i]? = some (if i < j then ptrN (q' i) o else .pointer none)
  node : ∀ (i : Nat) (x : Nd), i < j → T[i]? = some (some x) → NAt wr (q' i) (m' i) x (f i) ∧ w.heap.size ≤ q' i ∧ w.heap.size ≤ m' i
  apart : ∀ (i k : Nat) (x y : Nd), i < j → k < j → T[i]? = some (some x) → T[k]? = some (some y) → i ≠ k → q' i ≠ q' k ∧ m' i ≠ m' k
theorem CP.nextNone {w wr : World} {T : TB} {f : Nat → PF} {j : Nat} {q' m' : Nat → Nat} (h : CP w wr T f j q' m') (hj : T[j]? = some none) : CP w (wr.setCell ⟨w.heap.size, j, none⟩ (.pointer none)) T f (j + 1) q' m' := by
  obtain ⟨cs, k1, k2, k3⟩ := h.row
  have hjl := (List.getElem?_eq_some_iff.1 hj).1
  have hg : GrownS wr (wr.setCell ⟨w.heap.size, j, none⟩ (.pointer none)) (fun k => k = w.heap.size) := GrownS.of (grown_setCell wr _ _) (fun k e => by simpa using e)
  have hne : ∀ (i : Nat) (x : Nd), i < j + 1 → T[i]? = some (some x) → i < j := fun i x hi hx => by
    rcases Nat.lt_or_ge i j with h1 | h1
    · exact h1
    · obtain rfl : i = j := by omega
      rw [hj] at hx
      cases hx
  refine ⟨h.bel.setCell (p := ⟨w.heap.size, j, none⟩) (Nat.le_refl _) _, ⟨_, k1.set j _, by simpa using k2, fun i o hi => ?_⟩, fun i x hi hx => ?_, fun i k x y hi hk hx hy => h.apart i k x y (hne i x hi hx) (hne k y hk hy) hx hy⟩
  · by_cases e : i = j
    · subst e
      rw [Array.getElem?_setIfInBounds_self_of_lt (by omega), if_pos (by omega)]
      rw [hj] at hi
      injection hi with hi
      subst hi
      rfl
    · rw [Array.getElem?_setIfInBounds_ne (fun h2 => e h2.symm), k3 i o hi]
      by_cases h1 : i < j
      · rw [if_pos h1, if_pos (by omega)]
      · rw [if_neg h1, if_neg (by omega)]
  · obtain ⟨n1, n2, n3⟩ := h.node i x (hne i x hi hx) hx
    obtain ⟨D, hD, _⟩ := n1.own
    exact ⟨n1.grownS hg (blk_ne n1.blk k1 (by decide)) (map_ne k1 hD).symm, n2, n3⟩
theorem CP.nextSome {w wr w1 : World} {T : TB} {f : Nat → PF} {j : Nat} {q' m' : Nat → Nat} {x : Nd} (h : CP w wr T f j q' m') (hj : T[j]? = some (some x)) (hb : Below wr.heap.size wr w1) (hn : NAt w1 wr.heap.size (wr.heap.size + 1) x (f j)) :
    CP w (w1.setCell ⟨w.heap.size, j, none⟩ (.pointer (some ⟨wr.heap.size, 0, none⟩))) T f (j + 1) (updN q' j wr.heap.size) (updN m' j (wr.heap.size + 1)) := by
  obtain ⟨cs, k1, k2, k3⟩ := h.row
  have hjl := (List.getElem?_eq_some_iff.1 hj).1
  have hsz := h.bel.size
  have hgb : GrownS wr w1 (fun _ => False) := grownS_of_below hb
  have k1' := k1.grownS hgb (fun e => e)
  have hg : GrownS w1 (w1.setCell ⟨w.heap.size, j, none⟩ (.pointer (some ⟨wr.heap.size, 0, none⟩))) (fun k => k = w.heap.size) := GrownS.of (grown_setCell w1 _ _) (fun k e => by simpa using e)
  have hb2 : Below w.heap.size w w1 := h.bel.trans (hb.mono hsz)
  have hlo : ∀ (i : Nat) (y : Nd), i < j → T[i]? = some (some y) → q' i < wr.heap.size ∧ m' i < wr.heap.size := fun i y hi hy => (h.node i y hi hy).1.lt
  refine ⟨hb2.setCell (p := ⟨w.heap.size, j, none⟩) (Nat.le_refl _) _, ⟨_, k1'.set j _, by simpa using k2, fun i o hi => ?_⟩, fun i y hi hy => ?_, fun i k y z hi hk hy hz hik => ?_⟩
  · by_cases e : i = j
    · subst e
      rw [Array.getElem?_setIfInBounds_self_of_lt (by omega), if_pos (by omega)]
      rw [hj] at hi
      injection hi with hi
      subst hi
      show _ = some (Value.pointer (some ⟨updN q' i wr.heap.size i, 0, none⟩))
      rw [show updN q' i wr.heap.size i = wr.heap.size from if_pos rfl]
    · rw [Array.getElem?_setIfInBounds_ne (fun h2 => e h2.symm), k3 i o hi, show updN q' j wr.heap.size i = q' i from if_neg e]
      by_cases h1 : i < j
      · rw [if_pos h1, if_pos (by omega)]
      · rw [if_neg h1, if_neg (by omega)]
  · by_cases e : i = j
    · subst e
      rw [hj] at hy
      injection hy with hy
      injection hy with hy
      subst hy
      rw [show updN q' i wr.heap.size i = wr.heap.size from if_pos rfl, show updN m' i (wr.heap.size + 1) i = wr.heap.size + 1 from if_pos rfl]
      obtain ⟨D, hD, _⟩ := hn.own
      exact ⟨hn.grownS hg (blk_ne hn.blk k1' (by decide)) (map_ne k1' hD).symm, hsz, by omega⟩
    · rw [show updN q' j wr.heap.size i = q' i from if_neg e, show updN m' j (wr.heap.size + 1) i = m' i from if_neg e]
      obtain ⟨n1, n2, n3⟩ := h.node i y (by omega) hy
      have n1 := n1.grownS hgb (fun e => e) (fun e => e)
      obtain ⟨D, hD, _⟩ := n1.own
      exact ⟨n1.grownS hg (blk_ne n1.blk k1' (by decide)) (map_ne k1' hD).symm, n2, n3⟩
  · unfold updN
    by_cases e1 : i = j
    · by_cases e2 : k = j
      · omega
      · have := hlo k z (by omega) hz
        rw [if_pos e1, if_neg e2, if_pos e1, if_neg e2]
        omega
    · by_cases e2 : k = j
      · have := hlo i y (by omega) hy
        rw [if_neg e1, if_pos e2, if_neg e1, if_pos e2]
        omega
      · rw [if_neg e1, if_neg e2, if_neg e1, if_neg e2]
        exact h.apart i k y z (by omega) (by omega) hy hz hik
set_option maxRecDepth 20000 in
set_option maxHeartbeats 1000000 in
theorem tcopy_any {w : World} {p nb : Nat} {X : Nat → Prop} {T : TB} (H : TAt w p X T nb) : Calls Try.prog 12 #[.pointer (some ⟨p, 0, none⟩)] w fun e w' => ∃ p', e = .returned (.pointer (some ⟨p', 0, none⟩)) ∧ Hid (TAt w' p' (fun k => w.heap.size ≤ k) T nb ∧ Below w.heap.size w w') := by
  obtain ⟨L, HL, hin, hnb⟩ := H
  have hmx := HL.row.max
  obtain ⟨cs0, hc0, hz0, hmk⟩ := mk_nodes T.length hmx
  have q0 := HL.tab.cell 0 rfl
  change _ = some (Value.slice (some ⟨L.g, 0, none⟩) T.length L.c) at q0
  obtain ⟨rs, r1, r2, r3, r4, r5⟩ := HL.row.lies
  have HS0 : Hid (CP w (w.alloc (.cells cs0 70)) T L.pf 0 (fun _ => 0) (fun _ => 0)) := hide ⟨(Below.refl _ _).alloc (Nat.le_refl _) _, ⟨cs0, Blk.new _ _ _, hc0, fun i o hi => by rw [if_neg (by omega)]; exact hz0 i (List.getElem?_eq_some_iff.1 hi).1⟩, fun i x hi => by omega, fun i k x y hi => by omega⟩
  have HRD : Hid (∀ wr j q' m' o, CP w wr T L.pf j q' m' → T[j]? = some o → wr.cell? ⟨L.g, j, none⟩ = some (ptrN (L.q j) o)) := hide (fun wr j q' m' o h hj => (h.bel.cell (p := ⟨L.g, j, none⟩) r1.lt).trans (r1.cell j (r5 j o hj)))
  have HNN : Hid (∀ wr j q' m', CP w wr T L.pf j q' m' → T[j]? = some none → ((∃ v, wr.cell? ⟨w.heap.size, j, none⟩ = some v) ∧ wr.frozen? ⟨w.heap.size, j, none⟩ = false) ∧ CP w (wr.setCell ⟨w.heap.size, j, none⟩ (.pointer none)) T L.pf (j + 1) q' m') := hide (fun wr j q' m' h hj => by
    obtain ⟨cs, k1, k2, k3⟩ := h.row
    exact ⟨⟨⟨_, k1.cell j (k3 j _ hj)⟩, k1.frozen j⟩, h.nextNone hj⟩)
  have HNS : Hid (∀ wr j q' m' x, CP w wr T L.pf j q' m' → T[j]? = some (some x) → Calls Try.prog 31 #[.pointer (some ⟨L.q j, 0, none⟩)] wr fun e w1 => e = .returned (.pointer (some ⟨wr.heap.size, 0, none⟩)) ∧ ((∃ v, w1.cell? ⟨w.heap.size, j, none⟩ = some v) ∧ w1.frozen? ⟨w.heap.size, j, none⟩ = false) ∧ Hid (∃ q' m', CP w (w1.setCell ⟨w.heap.size, j, none⟩ (.pointer (some ⟨wr.heap.size, 0, none⟩))) T L.pf (j + 1) q' m')) := hide (fun wr j q' m' x h hj => by
    have HT := HL.grownS (S := fun _ => False) (grownS_of_below h.bel) (HL.lt.mono (fun _ _ e => e))
    refine (copied_any (HT.node j x hj)).mono ?_
    rintro e w1 ⟨h1, h2, h3, _⟩
    obtain ⟨cs, k1, k2, k3⟩ := h.row
    have k1' := k1.grownS (S := fun _ => False) (grownS_of_below h3) (fun e => e)
    exact ⟨h1, ⟨⟨_, k1'.cell j (k3 j _ hj)⟩, k1'.frozen j⟩, hide ⟨_, _, h.nextSome hj h3 h2⟩⟩)
  have HFN : Hid (∀ wr q' m', CP w wr T L.pf T.length q' m' → wr.cell? ⟨p, 1, none⟩ = some (.pointer (some ⟨L.s, 0, none⟩)) ∧ Calls Try.prog 32 #[.pointer (some ⟨L.s, 0, none⟩)] wr fun e w1 => ∃ s', e = .returned (.pointer (some ⟨s', 0, none⟩)) ∧ Hid (TAt (w1.alloc (.cells #[.slice (some ⟨w.heap.size, 0, none⟩) T.length T.length, .pointer (some ⟨s', 0, none⟩)] 66)) w1.heap.size (fun k => w.heap.size ≤ k) T nb ∧ Below w.heap.size w (w1.alloc (.cells #[.slice (some ⟨w.heap.size, 0, none⟩) T.length T.length, .pointer (some ⟨s', 0, none⟩)] 66)))) := hide (fun wr q' m' h => by
    have HT := HL.grownS (S := fun _ => False) (grownS_of_below h.bel) (HL.lt.mono (fun _ _ e => e))
    refine ⟨HT.tab.cell 1 rfl, (copy_any wr L.s L.gs L.hs L.l HT.store).mono ?_⟩
    rintro e w1 ⟨s', g', h', h1, h2, h3, h4, h5, h6⟩
    obtain ⟨cs, k1, k2, k3⟩ := h.row
    have hsz := h.bel.size
    have hb2 : Below w1.heap.size w1 (w1.alloc (.cells #[.slice (some ⟨w.heap.size, 0, none⟩) T.length T.length, .pointer (some ⟨s', 0, none⟩)] 66)) := (Below.refl _ _).alloc (Nat.le_refl _) _
    have hbw : Below w.heap.size w w1 := h.bel.trans (h3.mono hsz)
    have g1 : GrownS wr (w1.alloc (.cells #[.slice (some ⟨w.heap.size, 0, none⟩) T.length T.length, .pointer (some ⟨s', 0, none⟩)] 66)) (fun _ => False) := (grownS_of_below h3).trans (grownS_of_below hb2)
    have hml : T.length ≤ maxLen := Nat.le_trans hmx (by decide)
    have hlt : ∀ (i : Nat) (o : Option Nd), T[i]? = some o → i < T.length := fun i o hi => (List.getElem?_eq_some_iff.1 hi).1
    refine ⟨s', h1, hide ⟨⟨⟨w.heap.size, T.length, s', g', h', q', m', L.pf, L.l⟩, ⟨Blk.new _ _ _, ⟨HL.row.pos, HL.row.max, cs, k1.grownS g1 (fun e => e), k2, Nat.le_refl _, hml, fun i o hi => by rw [k3 i o hi, if_pos (hlt i o hi)]⟩, h2.below hb2, fun i x hi => ((h.node i x (hlt i _ hi) hi).1).grownS g1 (fun e => e) (fun e => e), fun i k x y hi hk => h.apart i k x y (hlt i _ hi) (hlt k _ hk) hi hk, HL.has, HL.part, HL.one, HL.byte, HL.count⟩, ⟨?_, Nat.le_refl _, ?_, ?_, ?_, fun i x hi => (h.node i x (hlt i _ hi) hi).2⟩, hnb⟩, hbw.trans (hb2.mono hbw.size)⟩⟩
    · exact hbw.size
    · show w.heap.size ≤ s'
      omega
    · show w.heap.size ≤ g'
      omega
    · show w.heap.size ≤ h'
      omega)
  obtain ⟨CX, hCX⟩ : ∃ P : World → Nat → (Nat → Nat) → (Nat → Nat) → Prop, P = fun wr j q' m' => CP w wr T L.pf j q' m' := ⟨_, rfl⟩
  have hCE : ∀ wr j q' m', CX wr j q' m' = CP w wr T L.pf j q' m' := fun wr j q' m' => by rw [hCX]
  simp only [← hCE] at HS0 HRD HNN HNS HFN
  obtain ⟨n, hn⟩ : ∃ n, n = T.length := ⟨_, rfl⟩
  obtain ⟨g, hg⟩ : ∃ g, g = L.g := ⟨_, rfl⟩
  obtain ⟨c, hc⟩ : ∃ c, c = L.c := ⟨_, rfl⟩
  obtain ⟨s, hs⟩ : ∃ s, s = L.s := ⟨_, rfl⟩
  have q02 := (HL.below' ((Below.refl _ w).alloc (Nat.le_refl _) (.cells cs0 70))).tab.cell 0 rfl
  change _ = some (Value.slice (some ⟨L.g, 0, none⟩) T.length L.c) at q02
  rw [← hn, ← hg, ← hc] at q0 q02
  rw [← hg] at HRD
  rw [← hs] at HFN
  rw [← hn] at HFN hmx hmk
  have HN := hide hn
  clear hCX hCE HL hin hnb hc0 hz0 r1 r2 r3 r4 r5 hn hg hc hs
  go_enter Try.func12, Try.ntmps12
  go_wp2_with fail
  go_loopw [19] (fun v wr => ∃ (j : Nat) (q' m' : Nat → Nat), v = .int .i64 (j : Int) ∧ j ≤ n ∧ Hid (CX wr j q' m')) (fun v _ => n - (intOf v).toNat)
  case atStart => exact ⟨0, _, _, rfl, Nat.zero_le _, HS0⟩
  case round =>
    clear HS0
    obtain ⟨j, q', m', rfl, hjn, HC⟩ := hrel
    by_cases hlt : j < n
    · have hlt1 : (j : Int) < (n : Int) := by omega
      obtain ⟨o, ho⟩ : ∃ o, T[j]? = some o := ⟨_, List.getElem?_eq_getElem (by have := unhide HN; omega)⟩
      have c1 := unhide HRD wr j q' m' o (unhide HC) ho
      cases o with
      | none =>
        change wr.cell? _ = some (.pointer none) at c1
        obtain ⟨⟨⟨v, c2⟩, f2⟩, z⟩ := unhide HNN wr j q' m' (unhide HC) ho
        have HZ := hide z
        clear z ho HFN HNN HNS HRD q0 q02
        go_wp2_with fail
        refine (copied_nil wr).mono ?_
        rintro e w1 ⟨rfl, hw1⟩
        rw [show w1 = wr from hw1]
        clear hw1
        go_wp2
        go_roundw
        case rel => exact ⟨j + 1, q', m', by go_num, by omega, HZ⟩
        case measure => simp [intOf]; omega
      | some x =>
        change wr.cell? _ = some (.pointer (some ⟨L.q j, 0, none⟩)) at c1
        have HK := hide (unhide HNS wr j q' m' x (unhide HC) ho)
        obtain ⟨qj, hqj⟩ : ∃ qj, qj = L.q j := ⟨_, rfl⟩
        rw [← hqj] at c1 HK
        clear ho HFN HNN HNS HRD hqj q0 q02
        go_wp2_with fail
        refine (unhide HK).mono ?_
        rintro e w1 ⟨rfl, ⟨⟨v, c2⟩, f2⟩, HZ⟩
        go_wp2
        go_roundw
        case rel =>
          obtain ⟨q2, m2, h2⟩ := unhide HZ
          exact ⟨j + 1, q2, m2, by go_num, by omega, hide h2⟩
        case measure => simp [intOf]; omega
    · have hlt1 : ¬ (j : Int) < (n : Int) := by omega
      obtain rfl : j = n := by omega
      obtain ⟨c1, z⟩ := unhide HFN wr q' m' (unhide HC)
      have HZ := hide z
      clear z HFN HNN HNS HRD hjn hlt
      go_wp2_with fail
      refine (unhide HZ).mono ?_
      rintro e w1 ⟨s', rfl, HX⟩
      go_wp2
      go_ret
      exact ⟨_, rfl, HX⟩

end Go.Proofs.Ytcfhgjlihifmnaa
