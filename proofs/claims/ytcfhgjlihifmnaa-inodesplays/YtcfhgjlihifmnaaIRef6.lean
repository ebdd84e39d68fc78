/-
  The document's table: Make, New.
-/
import Derived.Test.YtcfhgjlihifmnaaIRef4
namespace Go.Proofs.Ytcfhgjlihifmnaa
open Go.RowKit Go.Maps

theorem w5_alloc (w : World) (r a : Nat) (v : Nat → Value) (o : Obj) (h : r < w.heap.size) : w5 (w.alloc o) r a v = (w5 w r a v).alloc o := by
  unfold w5
  rw [World.setCell_alloc_past (w := w) o r a (v 0) h, World.setCell_alloc_past (w := w.setCell ⟨r, a, none⟩ (v 0)) o r (a + 1) (v 1) (by simpa using h),
    World.setCell_alloc_past (w := (w.setCell ⟨r, a, none⟩ (v 0)).setCell ⟨r, a + 1, none⟩ (v 1)) o r (a + 2) (v 2) (by simpa using h),
    World.setCell_alloc_past (w := ((w.setCell ⟨r, a, none⟩ (v 0)).setCell ⟨r, a + 1, none⟩ (v 1)).setCell ⟨r, a + 2, none⟩ (v 2)) o r (a + 3) (v 3) (by simpa using h),
    World.setCell_alloc_past (w := (((w.setCell ⟨r, a, none⟩ (v 0)).setCell ⟨r, a + 1, none⟩ (v 1)).setCell ⟨r, a + 2, none⟩ (v 2)).setCell ⟨r, a + 3, none⟩ (v 3)) o r (a + 4) (v 4) (by simpa using h)]
set_option maxRecDepth 20000 in
set_option maxHeartbeats 1000000 in
theorem rmake_any {w : World} {q nb : Nat} {Y : Nat → Prop} {T : TB} (H : RAt w q Y T nb) (hgd : ∀ (k : Nat) (x : Nd), T[k]? = some (some x) → 1 ≤ x.kind) (k : Int) (hX : ∀ j, w.heap.size ≤ j → Y j) : Calls Try.prog 35 #[.pointer (some ⟨q, 0, none⟩), .int .i64 k] w fun e w' => e = .returned (.tuple #[.int .i64 (makeN T k), .int .i64 (makeE T k)]) ∧ RAt w' q Y (makeT T k) nb ∧ GrownS w w' Y := by
  have HH : Hid (RAt w q Y T nb ∧ GrownS w w Y) := hide ⟨H, grownS_of_below (Below.refl _ _)⟩
  cases hk : kindOk k with
  | false =>
    rw [show makeN T k = 0 by unfold makeN; rw [hk]; rfl, show makeE T k = 1 by unfold makeE; rw [hk]; rfl, show makeT T k = T by unfold makeT; rw [hk]; rfl]
    have hk2 : k < 1 ∨ (¬ k < 1 ∧ 3 < k) := by
      unfold kindOk at hk
      simp only [Bool.and_eq_false_iff, decide_eq_false_iff_not] at hk
      omega
    clear hk H
    rcases hk2 with h1 | ⟨h1, h2⟩
    all_goals
      go_enter Try.func35, Try.ntmps35
      go_wp2
      go_ret2
      exact ⟨rfl, unhide HH⟩
  | true =>
    obtain ⟨K, HL, hin⟩ := H
    have hk2 : 1 ≤ k ∧ k ≤ 3 := by
      unfold kindOk at hk
      simpa using hk
    obtain ⟨kd, rfl⟩ : ∃ kd : Nat, k = kd := ⟨k.toNat, by omega⟩
    have q0 := HL.tab.cell 0 rfl
    change _ = some (Value.slice (some ⟨K.r, 0, none⟩) (T.length + 1) K.c) at q0
    have h1 : ¬ (kd : Int) < 1 := by omega
    have h2 : ¬ (3 : Int) < (kd : Int) := by omega
    have hmx := HL.max
    have HC : Hid (∀ i, i < T.length → ∃ o, T[i]? = some o ∧ w.cell? ⟨K.r, (i + 1) * 5, none⟩ = some (.int .i64 (kindOf o : Int)) ∧ (kindOf o = 0 ↔ o = none)) := hide (fun i hi => by
      obtain ⟨o, ho⟩ : ∃ o, T[i]? = some o := ⟨_, List.getElem?_eq_getElem hi⟩
      have c0 := (HL.cell0 ho).1
      cases o with
      | none => exact ⟨none, ho, c0, ⟨fun _ => rfl, fun _ => rfl⟩⟩
      | some x => exact ⟨some x, ho, c0, ⟨fun h => by have := hgd i x ho; have h : x.kind = 0 := h; omega, fun h => by cases h⟩⟩)
    obtain ⟨ds, hds, hdT, hmk⟩ := mk_takens 64 (by decide)
    have hrl := HL.lt.r
    have HM : Hid (∀ f, f = frAt T → f < T.length → T[f]? = some none → (∀ W, W = w ∨ W = w.alloc (.cells ds 4) → ∀ j, j < 5 → W.cell? ⟨K.r, (f + 1) * 5 + j, none⟩ = some (rcell (K.h (f + 1)) (K.hc (f + 1)) none j) ∧ W.frozen? ⟨K.r, (f + 1) * 5 + j, none⟩ = false) ∧ RAt ((w5 w K.r ((f + 1) * 5) (rcell w.heap.size 64 (some (nd0 kd)))).alloc (.cells ds 4)) q Y (makeT T kd) nb ∧ GrownS w ((w5 w K.r ((f + 1) * 5) (rcell w.heap.size 64 (some (nd0 kd)))).alloc (.cells ds 4)) Y ∧ makeN T kd = (f : Int) + 1 ∧ makeE T kd = 0) := hide (fun f hf hfl hfn => by
      subst hf
      have hdec : decide (frAt T < T.length) = true := by simpa using hfl
      have hb : Below w.heap.size w (w.alloc (.cells ds 4)) := (Below.refl _ _).alloc (Nat.le_refl _) _
      obtain ⟨a1, a2⟩ := HL.whole hin hfn (w0 := w.alloc (.cells ds 4)) (S := fun _ => False) (h' := w.heap.size) (c' := 64) (o' := some (nd0 kd)) (grownS_of_below hb) (fun _ _ e => e) (fun x' e => by
        injection e with e
        subst e
        refine ⟨⟨ds, Blk.new _ _ _, by omega, fun j hj => ?_⟩, hX _ (Nat.le_refl _), Nat.le_refl _⟩
        have := hdT j [] (by rw [List.getElem?_replicate, if_pos hj])
        exact this)
      rw [w5_alloc _ _ _ _ _ hrl] at a1 a2
      refine ⟨fun W hW j hj => ?_, ?_, a2, ?_, ?_⟩
      · rcases hW with e | e
        · rw [e]
          exact HL.cellN hfn hj
        · rw [e]
          exact (HL.grownS (S := fun _ => False) (grownS_of_below hb) (HL.lt.mono (fun _ _ e => e))).cellN hfn hj
      · rw [show makeT T (kd : Int) = T.set (frAt T) (some (nd0 kd)) by unfold makeT; rw [hk, hdec]; rfl]
        exact a1
      · unfold makeN; rw [hk, hdec]; rfl
      · unfold makeE; rw [hk, if_pos rfl, if_pos hfl])
    have HNO : Hid (frAt T = T.length → makeN T kd = 0 ∧ makeE T kd = 21 ∧ makeT T kd = T) := hide (fun e => by
      have hdec : decide (frAt T < T.length) = false := by simp; omega
      refine ⟨?_, ?_, ?_⟩
      · unfold makeN; rw [hk, hdec]; rfl
      · unfold makeE; rw [hk, if_pos rfl, if_neg (by omega)]
      · unfold makeT; rw [hk, hdec]; rfl)
    have HFR : Hid (∀ i, i ≤ frAt T → i < T.length → ∃ o, T[i]? = some o ∧ o.isNone = decide (i = frAt T)) := hide (fun i => frAt_spec)
    have HFL : Hid (frAt T ≤ T.length) := hide (frAt_le T)
    obtain ⟨n, hn⟩ : ∃ n, n = T.length := ⟨_, rfl⟩
    obtain ⟨f, hf⟩ : ∃ f, f = frAt T := ⟨_, rfl⟩
    obtain ⟨r, hr⟩ : ∃ r, r = K.r := ⟨_, rfl⟩
    obtain ⟨c, hc⟩ : ∃ c, c = K.c := ⟨_, rfl⟩
    rw [← hn, ← hr, ← hc] at q0
    rw [← hr, ← hn] at HC HM
    rw [← hf, ← hn] at HFR HFL HNO
    rw [← hf] at HM
    rw [← hr] at hrl
    rw [← hn] at hmx
    clear HL hin hk hk2 hds hdT hn hf hr hc hgd hX
    have hmk64 : ∀ u : World, (Instr.makeSlice 42 (.int .i64 64) (.int .i64 64)).run Try.prog u = .ok (.slice (some ⟨u.heap.size, 0, none⟩) 64 64) (u.alloc (.cells ds 4)) := hmk
    clear hmk
    go_enter Try.func35, Try.ntmps35
    go_wp2_with fail
    go_loop [6] (fun v => ∃ i : Nat, v = .int .i64 ((i : Int) + 1) ∧ i ≤ f) (fun v => n + 2 - (intOf v).toNat)
    case atStart => exact ⟨0, rfl, Nat.zero_le _⟩
    case round =>
      obtain ⟨i, rfl, hi⟩ := hrel
      have hfl := unhide HFL
      by_cases hlt : i < n
      · have hlt1 : (i : Int) + 1 < (n : Int) + 1 := by omega
        have h0 : (0 : Int) ≤ (i : Int) + 1 := by omega
        obtain ⟨o, ho, c0, hz⟩ := unhide HC i hlt
        obtain ⟨o2, ho2, hoz⟩ := unhide HFR i hi hlt
        rw [ho] at ho2
        injection ho2 with ho2
        subst ho2
        by_cases e : i = f
        · subst e
          have hon : o = none := by
            rw [show decide (i = i) = true by simp] at hoz
            cases o with
            | none => rfl
            | some _ => cases hoz
          subst hon
          change w.cell? _ = some (.int .i64 0) at c0
          obtain ⟨m1, m2, m3, m4, m5⟩ := unhide HM i rfl hlt ho
          obtain ⟨d0, g0⟩ := m1 w (.inl rfl) 0 (by decide)
          obtain ⟨d1, g1⟩ := m1 w (.inl rfl) 1 (by decide)
          obtain ⟨d2, g2⟩ := m1 w (.inl rfl) 2 (by decide)
          obtain ⟨d3, g3⟩ := m1 w (.inl rfl) 3 (by decide)
          obtain ⟨d4, g4⟩ := m1 w (.inl rfl) 4 (by decide)
          change w.cell? ⟨r, (i + 1) * 5, none⟩ = some (.int .i64 0) at d0
          change w.cell? _ = some (.int .i64 0) at d1
          change w.cell? _ = some (.int .i64 0) at d2
          change w.cell? _ = some (.string ⟨#[]⟩) at d3
          change w.cell? _ = some (.slice none 0 0) at d4
          rw [Nat.add_zero] at g0
          obtain ⟨ad0, ag0⟩ := m1 _ (.inr rfl) 0 (by decide)
          obtain ⟨ad1, ag1⟩ := m1 _ (.inr rfl) 1 (by decide)
          obtain ⟨ad2, ag2⟩ := m1 _ (.inr rfl) 2 (by decide)
          obtain ⟨ad3, ag3⟩ := m1 _ (.inr rfl) 3 (by decide)
          obtain ⟨ad4, ag4⟩ := m1 _ (.inr rfl) 4 (by decide)
          change (w.alloc (.cells ds 4)).cell? ⟨r, (i + 1) * 5, none⟩ = some (.int .i64 0) at ad0
          change (w.alloc (.cells ds 4)).cell? _ = some (.int .i64 0) at ad1
          change (w.alloc (.cells ds 4)).cell? _ = some (.int .i64 0) at ad2
          change (w.alloc (.cells ds 4)).cell? _ = some (.string ⟨#[]⟩) at ad3
          change (w.alloc (.cells ds 4)).cell? _ = some (.slice none 0 0) at ad4
          rw [Nat.add_zero] at ag0
          have q0a := cell_alloc q0 (.cells ds 4)
          clear c0
          have HM2 := hide m2
          have HM3 := hide m3
          have HM4 := hide (And.intro m4 m5)
          clear m1 m2 m3 m4 m5 ho hoz hz HC HM HFR HFL HNO HH
          go_wp2_with fail
          go_region
          all_goals
            go_wp2
            go_ret2
            exact ⟨by rw [(unhide HM4).1, (unhide HM4).2]; rfl, (unhide HM2).below (below_drew _ 1), (unhide HM3).trans (grownS_of_below (below_drew _ 1))⟩
        · have hos : ((kindOf o : Nat) : Int) ≠ 0 := by
            rw [show decide (i = f) = false by simpa using e] at hoz
            intro h
            have h' : kindOf o = 0 := by omega
            have := hz.1 h'
            subst this
            cases hoz
          have hkb : (((kindOf o : Nat) : Int) == 0) = false := by simpa using hos
          obtain ⟨kk, hkk⟩ : ∃ kk, kk = ((kindOf o : Nat) : Int) := ⟨_, rfl⟩
          rw [← hkk] at c0 hkb
          clear ho hoz hz hos hkk HM HNO HH
          go_wp2
          go_round
          case rel => exact ⟨i + 1, by go_num, by omega⟩
          case measure => simp [intOf]; omega
      · have hlt1 : ¬ (i : Int) + 1 < (n : Int) + 1 := by omega
        have hfe : f = n := by omega
        have HN3 := hide (unhide HNO hfe)
        clear HC HM HFR HFL HNO hfe
        go_wp2
        go_ret2
        obtain ⟨m1, m2, m3⟩ := unhide HN3
        rw [m1, m2, m3]
        exact ⟨rfl, unhide HH⟩

end Go.Proofs.Ytcfhgjlihifmnaa
