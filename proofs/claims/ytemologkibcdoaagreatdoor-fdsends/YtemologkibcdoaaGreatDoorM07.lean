/-
  untie, loose, unused, dropUnused; Untie, Loose.
  slices.Index of nodes, Make, newStore, New, Free.
-/
import Derived.Test.YtemologkibcdoaaGreatDoorM06

/- untie, loose, unused, dropUnused; Untie, Loose. -/
namespace Go.Proofs.YtemologkibcdoaaGreatDoor
open Go.RowKit Go.Maps

set_option maxRecDepth 20000 in
set_option maxHeartbeats 1000000 in
theorem unused_any (q : Nat) (a b : Nat) (w : World) (c0 : w.cell? ⟨q, 0, none⟩ = some (.int .i64 (a : Int))) (c1 : w.cell? ⟨q, 1, none⟩ = some (.int .i64 (b : Int))) :
    Calls Tryz.prog 105 #[.pointer (some ⟨q, 0, none⟩)] w fun e w' => e = .returned (.bool (decide (a = 0 ∧ b = 0))) ∧ w' = w := by
  go_enter Tryz.func105, Tryz.ntmps105
  go_wp2
  all_goals
    go_ret
    refine ⟨ret_bool ?_, rfl⟩
    simp_all

set_option maxRecDepth 20000 in
set_option maxHeartbeats 1000000 in
theorem untie_no (q : Nat) (w : World) (c0 : w.cell? ⟨q, 0, none⟩ = some (.int .i64 0)) :
    Calls Tryz.prog 78 #[.pointer (some ⟨q, 0, none⟩)] w fun e w' => e = .returned (.bool false) ∧ w' = w := by
  go_enter Tryz.func78, Tryz.ntmps78
  go_wp2
  go_ret
  exact ⟨rfl, rfl⟩
set_option maxRecDepth 20000 in
set_option maxHeartbeats 1000000 in
theorem untie_yes (q a : Nat) (w : World) (c0 : w.cell? ⟨q, 0, none⟩ = some (.int .i64 ((a : Int) + 1))) (f0 : w.frozen? ⟨q, 0, none⟩ = false) (ha : a ≤ 1000000) :
    Calls Tryz.prog 78 #[.pointer (some ⟨q, 0, none⟩)] w fun e w' => e = .returned (.bool true) ∧ w' = w.setCell ⟨q, 0, none⟩ (.int .i64 (a : Int)) := by
  have h1 : (((a : Int) + 1) == 0) = false := by simp; omega
  go_enter Tryz.func78, Tryz.ntmps78
  go_wp2
  go_ret
  exact ⟨rfl, by simp⟩

set_option maxRecDepth 20000 in
set_option maxHeartbeats 1000000 in
theorem loose_no (q : Nat) (w : World) (c0 : w.cell? ⟨q, 1, none⟩ = some (.int .i64 0)) :
    Calls Tryz.prog 232 #[.pointer (some ⟨q, 0, none⟩)] w fun e w' => e = .returned (.bool false) ∧ w' = w := by
  go_enter Tryz.func232, Tryz.ntmps232
  go_wp2
  go_ret
  exact ⟨rfl, rfl⟩
set_option maxRecDepth 20000 in
set_option maxHeartbeats 1000000 in
theorem loose_yes (q a : Nat) (w : World) (c0 : w.cell? ⟨q, 1, none⟩ = some (.int .i64 ((a : Int) + 1))) (f0 : w.frozen? ⟨q, 1, none⟩ = false) (ha : a ≤ 1000000) :
    Calls Tryz.prog 232 #[.pointer (some ⟨q, 0, none⟩)] w fun e w' => e = .returned (.bool true) ∧ w' = w.setCell ⟨q, 1, none⟩ (.int .i64 (a : Int)) := by
  have h1 : (((a : Int) + 1) == 0) = false := by simp; omega
  go_enter Tryz.func232, Tryz.ntmps232
  go_wp2
  go_ret
  exact ⟨rfl, by simp⟩

/-- A node that has no block is no more. -/
theorem TL.drop {w : World} {p : Nat} {L : Lay} {T : TB} (H : TL w p L T) {i : Nat} {x : Nd} (hi : T[i]? = some (some x)) (hc : cnt x.has = 0) : TL (w.setCell ⟨L.g, i, none⟩ (.pointer none)) p L (T.set i none) ∧ GrownS w (w.setCell ⟨L.g, i, none⟩ (.pointer none)) (fun k => k = L.g) := by
  obtain ⟨w', hw'⟩ : ∃ w', w' = w.setCell ⟨L.g, i, none⟩ (.pointer none) := ⟨_, rfl⟩
  rw [← hw']
  have hg : GrownS w w' (fun k => k = L.g) := by rw [hw']; exact GrownS.of (grown_setCell w _ _) (fun j e => by simpa using e)
  have ne2 := H.ne2
  have ln : (T.set i none).length = T.length := List.length_set
  have hil := (List.getElem?_eq_some_iff.1 hi).1
  have sg : ∀ (j : Nat) (y : Nd), (T.set i none)[j]? = some (some y) → T[j]? = some (some y) := fun j y hj => by
    rcases set_get hi hj with ⟨_, e⟩ | ⟨_, hj⟩
    · cases e
    · exact hj
  refine ⟨⟨?_, ?_, H.store.grownS hg ne2.2.1.symm ne2.2.2.1.symm ne2.2.2.2.symm, fun j y hj => ?_, fun j k y z hj hk => H.apart j k y z (sg j y hj) (sg k z hk), fun j y hj => H.has j y (sg j y hj), fun j y hj => H.part j y (sg j y hj), fun j k y z hj hk => H.one j k y z (sg j y hj) (sg k z hk), fun j y hj => H.byte j y (sg j y hj), ?_⟩, hg⟩
  · rw [ln]
    exact H.tab.grownS hg ne2.1.1
  · obtain ⟨h1, h2, cs, h3, h4, h5, h6, h7⟩ := H.row
    refine ⟨by rw [ln]; exact h1, by rw [ln]; exact h2, cs.setIfInBounds i (.pointer none), by rw [hw']; exact h3.set i _, by simpa using h4, by rw [ln]; exact h5, h6, fun j o hj => ?_⟩
    by_cases e : j = i
    · subst e
      rw [set_same hi] at hj
      injection hj with hj
      subst hj
      rw [Array.getElem?_setIfInBounds_self_of_lt (by omega)]
      rfl
    · rw [set_other (fun h2 => e h2.symm)] at hj
      rw [Array.getElem?_setIfInBounds_ne (fun h2 => e h2.symm)]
      exact h7 j o hj
  · have n1 := H.ne (sg j y hj)
    exact (H.node j y (sg j y hj)).grownS hg n1.1.2.1 n1.2.2.1
  · have h1 := usedT_set T i (some x) none hi
    have h2 := H.count
    simp only [usd, hc] at h1
    omega
theorem Lay.In.drop {L : Lay} {T : TB} {p : Nat} {X : Nat → Prop} (h : L.In T p X) {i : Nat} {o : Option Nd} (hi : T[i]? = some o) : L.In (T.set i none) p X :=
  ⟨h.p, h.g, h.s, h.gs, h.hs, fun j y hj => by
    rcases set_get hi hj with ⟨_, e⟩ | ⟨_, hj⟩
    · cases e
    · exact h.each j y hj⟩
set_option maxRecDepth 20000 in
set_option maxHeartbeats 1000000 in
theorem dropUnused_any {w : World} {p nb : Nat} {L : Lay} {T : TB} {X : Nat → Prop} (H : TL w p L T) (hin : L.In T p X) (hnb : L.l.length = nb) {k : Nat} {x : Nd} (hk : T[k]? = some (some x)) :
    Calls Tryz.prog 79 #[.pointer (some ⟨p, 0, none⟩), .int .i64 ((k : Int) + 1), .pointer (some ⟨L.q k, 0, none⟩)] w fun e w' => e = .returned (.tuple #[]) ∧ Hid (TAt w' p X (T.set k (leftN x)) nb ∧ GrownS w w' X) := by
  have hbk := (H.node k x hk).blk
  have HU := hide (unused_any (L.q k) x.names x.users w (hbk.cell 0 rfl) (hbk.cell 1 rfl))
  by_cases h0 : x.names = 0 ∧ x.users = 0
  · rw [show leftN x = none by unfold leftN; rw [if_pos h0]]
    rw [show decide (x.names = 0 ∧ x.users = 0) = true by simpa using h0] at HU
    have HG := hide (giveFrom_any H hk 0)
    have HE : Hid (∀ w1, (∃ pf l, TL w1 p { L with pf := updF L.pf k pf, l := l } (T.set k (some (xkeep x (fun j => decide (j < 0))))) ∧ l.length = L.l.length ∧ GrownS w w1 (fun j => j = L.m k ∨ j = L.gs ∨ j = L.hs)) →
        (w1.cell? ⟨p, 0, none⟩ = some (.slice (some ⟨L.g, 0, none⟩) T.length L.c) ∧ (∃ v, w1.cell? ⟨L.g, k, none⟩ = some v) ∧ w1.frozen? ⟨L.g, k, none⟩ = false) ∧ Hid (TAt (w1.setCell ⟨L.g, k, none⟩ (.pointer none)) p X (T.set k none) nb ∧ GrownS w (w1.setCell ⟨L.g, k, none⟩ (.pointer none)) X)) := hide (fun w1 ⟨pf, l, t1, t2, t3⟩ => by
      obtain ⟨cs, r1, r2, r3, r4, r5⟩ := t1.row.lies
      obtain ⟨d1, d2⟩ := t1.drop (set_same hk) (by
        show cnt (fun j => x.has j && decide (j < 0)) = 0
        have : (fun j => x.has j && decide (j < 0)) = fun _ => false := by funext j; simp
        rw [this]
        decide)
      rw [List.set_set] at d1
      have hq := t1.tab.cell 0 rfl
      rw [List.length_set] at hq
      refine ⟨⟨hq, ⟨_, r1.cell k (r5 k _ (set_same hk))⟩, r1.frozen k⟩, hide ⟨⟨_, d1, ?_, by show l.length = nb; omega⟩, ?_⟩⟩
      · have := (hin.step hk (xkeep x (fun j => decide (j < 0))) (updF L.pf k pf) l).drop (set_same hk)
        rwa [List.set_set] at this
      · exact (t3.mono (fun j _ e => by rcases e with e | e | e; rw [e]; exact (hin.each k x hk).2; rw [e]; exact hin.gs; rw [e]; exact hin.hs)).trans (d2.mono (fun j _ e => by rw [show j = L.g from e]; exact hin.g)))
    have hmx := H.row.max
    have hkl := (List.getElem?_eq_some_iff.1 hk).1
    obtain ⟨PRE, hPRE⟩ : ∃ P : World → Prop, P = fun w1 => ∃ pf l, TL w1 p { L with pf := updF L.pf k pf, l := l } (T.set k (some (xkeep x (fun j => decide (j < 0))))) ∧ l.length = L.l.length ∧ GrownS w w1 (fun j => j = L.m k ∨ j = L.gs ∨ j = L.hs) := ⟨_, rfl⟩
    have HG2 : Hid (Calls Tryz.prog 106 #[.pointer (some ⟨p, 0, none⟩), .pointer (some ⟨L.q k, 0, none⟩), .int .i64 0] w fun e w' => e = .returned (.tuple #[]) ∧ PRE w') := hide (by rw [hPRE]; exact unhide HG)
    have HE2 : Hid (∀ w1, PRE w1 → (w1.cell? ⟨p, 0, none⟩ = some (.slice (some ⟨L.g, 0, none⟩) T.length L.c) ∧ (∃ v, w1.cell? ⟨L.g, k, none⟩ = some v) ∧ w1.frozen? ⟨L.g, k, none⟩ = false) ∧ Hid (TAt (w1.setCell ⟨L.g, k, none⟩ (.pointer none)) p X (T.set k none) nb ∧ GrownS w (w1.setCell ⟨L.g, k, none⟩ (.pointer none)) X)) := hide (by rw [hPRE]; exact unhide HE)
    clear hPRE HG HE
    obtain ⟨n, hn⟩ : ∃ n, n = T.length := ⟨_, rfl⟩
    obtain ⟨g, hg⟩ : ∃ g, g = L.g := ⟨_, rfl⟩
    obtain ⟨c, hc⟩ : ∃ c, c = L.c := ⟨_, rfl⟩
    obtain ⟨q, hq⟩ : ∃ q, q = L.q k := ⟨_, rfl⟩
    rw [← hn, ← hg, ← hc] at HE2
    rw [← hq] at HU HG2 ⊢
    rw [← hn] at hkl hmx
    have hki : (k : Int) < (n : Int) := by omega
    clear hn hg hc hq hbk H hin hk h0 hnb
    go_enter Tryz.func79, Tryz.ntmps79
    go_wp2_with fail
    refine (unhide HU).mono ?_
    rintro e w1 ⟨rfl, hw1⟩
    rw [show w1 = w from hw1]
    clear hw1
    go_wp2_with fail
    refine (unhide HG2).mono ?_
    rintro e w1 ⟨rfl, hw1⟩
    obtain ⟨⟨c1, ⟨v, c2⟩, c3⟩, HX⟩ := unhide HE2 w1 hw1
    clear hw1
    go_wp2
    refine bodyPost_end (res0 rfl _ _) rfl ?_
    exact ⟨rfl, HX⟩
  · rw [show leftN x = some x by unfold leftN; rw [if_neg h0], set_self hk]
    rw [show decide (x.names = 0 ∧ x.users = 0) = false by simpa using h0] at HU
    have HX : Hid (TAt w p X T nb ∧ GrownS w w X) := hide ⟨⟨L, H, hin, hnb⟩, grownS_of_below (Below.refl _ _)⟩
    obtain ⟨q, hq⟩ : ∃ q, q = L.q k := ⟨_, rfl⟩
    rw [← hq] at HU ⊢
    clear hq hbk H hin hk h0 hnb
    go_enter Tryz.func79, Tryz.ntmps79
    go_wp2_with fail
    refine (unhide HU).mono ?_
    rintro e w1 ⟨rfl, hw1⟩
    rw [show w1 = w from hw1]
    clear hw1
    go_wp2
    refine bodyPost_ret (res0 rfl _ _) rfl ?_
    exact ⟨rfl, HX⟩

set_option maxRecDepth 20000 in
theorem tuntie_nil (i : Int) (w : World) : Calls Tryz.prog 59 #[.pointer none, .int .i64 i] w fun e w' => e = .returned (.int .i64 2) ∧ w' = w := by
  go_enter Tryz.func59, Tryz.ntmps59
  go_wp2_with fail
  refine (tfind_nil i w).mono ?_
  rintro e w1 ⟨rfl, hw1⟩
  rw [show w1 = w from hw1]
  clear hw1
  go_wp2
  go_ret
  exact ⟨rfl, rfl⟩
set_option maxRecDepth 20000 in
set_option maxHeartbeats 1000000 in
theorem tuntie_any {w : World} {p nb : Nat} {X : Nat → Prop} {T : TB} (H : TAt w p X T nb) (i : Int) (hb : -9223372036854775808 ≤ i ∧ i ≤ 9223372036854775807) (hm : ∀ (k : Nat) (x : Nd), T[k]? = some (some x) → x.names ≤ 1000000) : Calls Tryz.prog 59 #[.pointer (some ⟨p, 0, none⟩), .int .i64 i] w fun e w' => e = .returned (.int .i64 (untE T i)) ∧ TAt w' p X (untT T i) nb ∧ GrownS w w' X := by
  have HH : Hid (TAt w p X T nb ∧ GrownS w w X) := hide ⟨H, grownS_of_below (Below.refl _ _)⟩
  obtain ⟨L, HL, hin, hnb⟩ := H
  unfold untE untT
  cases hx : ndAt T i with
  | none =>
    have HF := hide (tfind_none HL hx hb)
    clear HL hx hin
    go_enter Tryz.func59, Tryz.ntmps59
    go_wp2_with fail
    refine (unhide HF).mono ?_
    rintro e w1 ⟨rfl, hw1⟩
    rw [show w1 = w from hw1]
    clear hw1
    go_wp2
    go_ret
    exact ⟨rfl, unhide HH⟩
  | some x =>
    obtain ⟨k, rfl, hk, _⟩ := ndAt_some hx
    rw [plc_of]
    have HF := hide (tfind_some HL hk)
    have hn := HL.node k x hk
    have c := hn.blk.cell 0 rfl
    have f := hn.blk.frozen 0
    have hm1 := hm k x hk
    change _ = some (Value.int .i64 (x.names : Int)) at c
    dsimp only
    by_cases h0 : x.names = 0
    · rw [if_pos h0, if_pos h0]
      rw [h0] at c
      have HU := hide (untie_no (L.q k) w c)
      obtain ⟨q, hq⟩ : ∃ q, q = L.q k := ⟨_, rfl⟩
      rw [← hq] at HF HU
      clear HL hx hk hq hin hn hm h0 c f
      go_enter Tryz.func59, Tryz.ntmps59
      go_wp2_with fail
      refine (unhide HF).mono ?_
      rintro e w1 ⟨rfl, hw1⟩
      rw [show w1 = w from hw1]
      clear hw1
      go_wp2_with fail
      refine (unhide HU).mono ?_
      rintro e w1 ⟨rfl, hw1⟩
      rw [show w1 = w from hw1]
      clear hw1
      go_wp2
      go_ret
      exact ⟨rfl, unhide HH⟩
    · rw [if_neg h0, if_neg h0]
      obtain ⟨a, ha⟩ : ∃ a, x.names = a + 1 := ⟨x.names - 1, by omega⟩
      have hcell : w.cell? ⟨L.q k, 0, none⟩ = some (.int .i64 ((a : Int) + 1)) := by rw [c, ha]; rfl
      have HU := hide (untie_yes (L.q k) a w hcell f (by omega))
      obtain ⟨_, g1⟩ : TAt (w.setCell ⟨L.q k, 0, none⟩ (.int .i64 (a : Int))) p X (T.set k (some (untN x))) nb ∧ GrownS w (w.setCell ⟨L.q k, 0, none⟩ (.int .i64 (a : Int))) X :=
        HL.cellTurn hin hnb hk (c := 0) (x' := untN x) (by
          have := hn.blk.set 0 (.int .i64 (a : Int))
          have e : (untN x).names = a := by show x.names - 1 = a; omega
          rw [e]
          exact this) rfl rfl
      have HD : Hid (Calls Tryz.prog 79 #[.pointer (some ⟨p, 0, none⟩), .int .i64 ((k : Int) + 1), .pointer (some ⟨L.q k, 0, none⟩)] (w.setCell ⟨L.q k, 0, none⟩ (.int .i64 (a : Int))) fun e w' => e = .returned (.tuple #[]) ∧ Hid (TAt w' p X (T.set k (leftN (untN x))) nb ∧ GrownS w w' X)) := hide (by
        have hs := HL.cellTL hk (c := 0) (x' := untN x) (v := .int .i64 (a : Int)) (by
          have := hn.blk.set 0 (.int .i64 (a : Int))
          have e : (untN x).names = a := by show x.names - 1 = a; omega
          rw [e]
          exact this) rfl rfl
        refine (dropUnused_any hs (hin.step hk _ _ _) hnb (set_same hk)).mono ?_
        rintro e w' ⟨h1, h2⟩
        rw [List.set_set] at h2
        exact ⟨h1, hide ⟨(unhide h2).1, g1.trans (unhide h2).2⟩⟩)
      obtain ⟨q, hq⟩ : ∃ q, q = L.q k := ⟨_, rfl⟩
      rw [← hq] at HF HU HD
      clear HL hx hk hq hin hn hm h0 c f g1 hcell
      go_enter Tryz.func59, Tryz.ntmps59
      go_wp2_with fail
      refine (unhide HF).mono ?_
      rintro e w1 ⟨rfl, hw1⟩
      rw [show w1 = w from hw1]
      clear hw1
      go_wp2_with fail
      refine (unhide HU).mono ?_
      rintro e w1 ⟨rfl, hw1⟩
      rw [show w1 = _ from hw1]
      clear hw1
      go_wp2_with fail
      refine (unhide HD).mono ?_
      rintro e w2 ⟨rfl, HX⟩
      go_wp2
      go_ret
      exact ⟨rfl, unhide HX⟩

set_option maxRecDepth 20000 in
theorem tloose_nil (i : Int) (w : World) : Calls Tryz.prog 231 #[.pointer none, .int .i64 i] w fun e w' => e = .returned (.int .i64 2) ∧ w' = w := by
  go_enter Tryz.func231, Tryz.ntmps231
  go_wp2_with fail
  refine (tfind_nil i w).mono ?_
  rintro e w1 ⟨rfl, hw1⟩
  rw [show w1 = w from hw1]
  clear hw1
  go_wp2
  go_ret
  exact ⟨rfl, rfl⟩
set_option maxRecDepth 20000 in
set_option maxHeartbeats 1000000 in
theorem tloose_any {w : World} {p nb : Nat} {X : Nat → Prop} {T : TB} (H : TAt w p X T nb) (i : Int) (hb : -9223372036854775808 ≤ i ∧ i ≤ 9223372036854775807) (hm : ∀ (k : Nat) (x : Nd), T[k]? = some (some x) → x.users ≤ 1000000) : Calls Tryz.prog 231 #[.pointer (some ⟨p, 0, none⟩), .int .i64 i] w fun e w' => e = .returned (.int .i64 (looE T i)) ∧ TAt w' p X (looT T i) nb ∧ GrownS w w' X := by
  have HH : Hid (TAt w p X T nb ∧ GrownS w w X) := hide ⟨H, grownS_of_below (Below.refl _ _)⟩
  obtain ⟨L, HL, hin, hnb⟩ := H
  unfold looE looT
  cases hx : ndAt T i with
  | none =>
    have HF := hide (tfind_none HL hx hb)
    clear HL hx hin
    go_enter Tryz.func231, Tryz.ntmps231
    go_wp2_with fail
    refine (unhide HF).mono ?_
    rintro e w1 ⟨rfl, hw1⟩
    rw [show w1 = w from hw1]
    clear hw1
    go_wp2
    go_ret
    exact ⟨rfl, unhide HH⟩
  | some x =>
    obtain ⟨k, rfl, hk, _⟩ := ndAt_some hx
    rw [plc_of]
    have HF := hide (tfind_some HL hk)
    have hn := HL.node k x hk
    have c := hn.blk.cell 1 rfl
    have f := hn.blk.frozen 1
    have hm1 := hm k x hk
    change _ = some (Value.int .i64 (x.users : Int)) at c
    dsimp only
    by_cases h0 : x.users = 0
    · rw [if_pos h0, if_pos h0]
      rw [h0] at c
      have HU := hide (loose_no (L.q k) w c)
      obtain ⟨q, hq⟩ : ∃ q, q = L.q k := ⟨_, rfl⟩
      rw [← hq] at HF HU
      clear HL hx hk hq hin hn hm h0 c f
      go_enter Tryz.func231, Tryz.ntmps231
      go_wp2_with fail
      refine (unhide HF).mono ?_
      rintro e w1 ⟨rfl, hw1⟩
      rw [show w1 = w from hw1]
      clear hw1
      go_wp2_with fail
      refine (unhide HU).mono ?_
      rintro e w1 ⟨rfl, hw1⟩
      rw [show w1 = w from hw1]
      clear hw1
      go_wp2
      go_ret
      exact ⟨rfl, unhide HH⟩
    · rw [if_neg h0, if_neg h0]
      obtain ⟨a, ha⟩ : ∃ a, x.users = a + 1 := ⟨x.users - 1, by omega⟩
      have hcell : w.cell? ⟨L.q k, 1, none⟩ = some (.int .i64 ((a : Int) + 1)) := by rw [c, ha]; rfl
      have HU := hide (loose_yes (L.q k) a w hcell f (by omega))
      obtain ⟨_, g1⟩ : TAt (w.setCell ⟨L.q k, 1, none⟩ (.int .i64 (a : Int))) p X (T.set k (some (looN x))) nb ∧ GrownS w (w.setCell ⟨L.q k, 1, none⟩ (.int .i64 (a : Int))) X :=
        HL.cellTurn hin hnb hk (c := 1) (x' := looN x) (by
          have := hn.blk.set 1 (.int .i64 (a : Int))
          have e : (looN x).users = a := by show x.users - 1 = a; omega
          rw [e]
          exact this) rfl rfl
      have HD : Hid (Calls Tryz.prog 79 #[.pointer (some ⟨p, 0, none⟩), .int .i64 ((k : Int) + 1), .pointer (some ⟨L.q k, 0, none⟩)] (w.setCell ⟨L.q k, 1, none⟩ (.int .i64 (a : Int))) fun e w' => e = .returned (.tuple #[]) ∧ Hid (TAt w' p X (T.set k (leftN (looN x))) nb ∧ GrownS w w' X)) := hide (by
        have hs := HL.cellTL hk (c := 1) (x' := looN x) (v := .int .i64 (a : Int)) (by
          have := hn.blk.set 1 (.int .i64 (a : Int))
          have e : (looN x).users = a := by show x.users - 1 = a; omega
          rw [e]
          exact this) rfl rfl
        refine (dropUnused_any hs (hin.step hk _ _ _) hnb (set_same hk)).mono ?_
        rintro e w' ⟨h1, h2⟩
        rw [List.set_set] at h2
        exact ⟨h1, hide ⟨(unhide h2).1, g1.trans (unhide h2).2⟩⟩)
      obtain ⟨q, hq⟩ : ∃ q, q = L.q k := ⟨_, rfl⟩
      rw [← hq] at HF HU HD
      clear HL hx hk hq hin hn hm h0 c f g1 hcell
      go_enter Tryz.func231, Tryz.ntmps231
      go_wp2_with fail
      refine (unhide HF).mono ?_
      rintro e w1 ⟨rfl, hw1⟩
      rw [show w1 = w from hw1]
      clear hw1
      go_wp2_with fail
      refine (unhide HU).mono ?_
      rintro e w1 ⟨rfl, hw1⟩
      rw [show w1 = _ from hw1]
      clear hw1
      go_wp2_with fail
      refine (unhide HD).mono ?_
      rintro e w2 ⟨rfl, HX⟩
      go_wp2
      go_ret
      exact ⟨rfl, unhide HX⟩

end Go.Proofs.YtemologkibcdoaaGreatDoor

/- slices.Index of nodes, Make, newStore, New, Free. -/
namespace Go.Proofs.YtemologkibcdoaaGreatDoor
open Go.RowKit Go.Maps

theorem frAt_le (T : TB) : frAt T ≤ T.length := List.findIdx_le_length
theorem frAt_spec {T : TB} {i : Nat} (hi : i ≤ frAt T) (hl : i < T.length) : ∃ o, T[i]? = some o ∧ o.isNone = decide (i = frAt T) := by
  refine ⟨T[i], List.getElem?_eq_getElem hl, ?_⟩
  by_cases e : i = frAt T
  · rw [show decide (i = frAt T) = true by simpa using e]
    have h2 : frAt T < T.length := by omega
    have h3 : (T[frAt T]).isNone = true := List.findIdx_getElem (w := h2)
    subst e
    exact h3
  · rw [show decide (i = frAt T) = false by simpa using e]
    have := List.not_of_lt_findIdx (show i < T.findIdx (·.isNone) by unfold frAt at hi e; omega)
    simpa using this
set_option maxRecDepth 20000 in
set_option maxHeartbeats 1000000 in
theorem tindex_any (w : World) (g c : Nat) (q : Nat → Nat) (T : TB) (H : NRow w g c q T) : Calls Tryz.prog 95 #[.slice (some ⟨g, 0, none⟩) T.length c, .pointer none] w fun e w' => e = .returned (.int .i64 (if frAt T < T.length then (frAt T : Int) else -1)) ∧ w' = w := by
  obtain ⟨n, hl⟩ : ∃ n, n = T.length := ⟨_, rfl⟩
  obtain ⟨_, hn, cs, k, _, _, _, hT⟩ := H
  have HF : Hid (∀ i, i ≤ frAt T → i < T.length → ∃ o, T[i]? = some o ∧ o.isNone = decide (i = frAt T)) := hide (fun i => frAt_spec)
  have HFL : Hid (frAt T ≤ n) := hide (by rw [hl]; exact frAt_le T)
  rw [← hl] at hn ⊢
  obtain ⟨f, hf⟩ : ∃ f, f = frAt T := ⟨_, rfl⟩
  rw [← hf] at HF HFL ⊢
  obtain ⟨r, hr⟩ : ∃ r : Int, r = if f < n then (f : Int) else -1 := ⟨_, rfl⟩
  rw [← hr]
  have HR := hide hr
  have HT := hide hT
  have HK := hide k
  have HN := hide hl
  clear hf hT k hl hr
  go_enter Tryz.func95, Tryz.ntmps95
  go_wp2
  go_loop [8] (fun i => ∃ k : Nat, i = .int .i64 k ∧ k ≤ f) (fun i => n - (intOf i).toNat)
  case atStart => exact ⟨0, rfl, Nat.zero_le _⟩
  case round =>
    obtain ⟨k, rfl, hk⟩ := hrel
    have hfn := unhide HFL
    by_cases hlt : k < n
    · obtain ⟨o, hx, hx2⟩ := unhide HF k hk (by have := unhide HN; omega)
      have c1 := (unhide HK).cell k (unhide HT k o hx)
      have hk1 : (k : Int) < (n : Int) := by omega
      have hk0 : (0 : Int) ≤ (k : Int) := by omega
      by_cases e : k = f
      · rw [show decide (k = f) = true by simpa using e] at hx2
        have HE := hide e
        cases o with
        | some x => cases hx2
        | none =>
          change w.cell? _ = some (.pointer none) at c1
          clear e hx hx2
          go_wp2
          go_ret
          exact ⟨ret_int (by have := unhide HE; have h2 := unhide HR; rw [if_pos (by omega)] at h2; omega), rfl⟩
      · rw [show decide (k = f) = false by simpa using e] at hx2
        cases o with
        | none => cases hx2
        | some x =>
          obtain ⟨qk, hqk⟩ : ∃ qk, qk = q k := ⟨_, rfl⟩
          change w.cell? _ = some (.pointer (some ⟨q k, 0, none⟩)) at c1
          rw [← hqk] at c1
          have hq2 : ∀ u, (binOp .eql 128 (.pointer none) (.pointer (some ⟨qk, 0, none⟩))).run Tryz.prog u = .ok (.bool false) u := fun u => by kernel_rfl
          clear hx hx2 hqk
          go_wp2
          go_round
          case rel => exact ⟨k + 1, by go_num, by omega⟩
          case measure => simp [intOf]; omega
    · go_wp2
      go_ret
      exact ⟨ret_int (by have h2 := unhide HR; rw [if_neg (by omega)] at h2; exact h2.symm), rfl⟩

set_option maxRecDepth 20000 in
theorem tmake_nil (k : Int) (w : World) : Calls Tryz.prog 70 #[.pointer none, .int .i64 k] w fun e w' => e = .returned (.tuple #[.int .i64 0, .int .i64 2]) ∧ w' = w := by
  go_enter Tryz.func70, Tryz.ntmps70
  go_wp2
  go_ret2
  exact ⟨rfl, rfl⟩
def updN (f : Nat → Nat) (i a : Nat) : Nat → Nat := fun j => if j = i then a else f j
theorem reads0 : Reads (.map []) (fun _ => none) := by
  refine ⟨isMap_empty, tidy_empty, fun k => by simp [Maps.has, isS], fun _ _ h => (by cases h), ?_, fun k h => (by cases h)⟩
  have : cnt (isS fun _ => none) = 0 := by decide
  rw [this]
  rfl
/-- A node is made. -/
theorem TL.made {w : World} {p : Nat} {L : Lay} {T : TB} (H : TL w p L T) {f : Nat} (hf : T[f]? = some none) (kd : Nat) :
    TL (((w.alloc (.map #[] 0)).alloc (.cells #[.int .i64 0, .int .i64 0, .int .i64 (kd : Int), .int .i64 0, .map (some w.heap.size)] 155)).setCell ⟨L.g, f, none⟩ (.pointer (some ⟨w.heap.size + 1, 0, none⟩))) p
      { L with q := updN L.q f (w.heap.size + 1), m := updN L.m f w.heap.size, pf := updF L.pf f (fun _ => none) } (T.set f (some (nd0 kd))) ∧
    GrownS w (((w.alloc (.map #[] 0)).alloc (.cells #[.int .i64 0, .int .i64 0, .int .i64 (kd : Int), .int .i64 0, .map (some w.heap.size)] 155)).setCell ⟨L.g, f, none⟩ (.pointer (some ⟨w.heap.size + 1, 0, none⟩))) (fun k => k = L.g) := by
  obtain ⟨w1, hw1⟩ : ∃ w1, w1 = w.alloc (.map #[] 0) := ⟨_, rfl⟩
  obtain ⟨w2, hw2⟩ : ∃ w2, w2 = w1.alloc (.cells #[.int .i64 0, .int .i64 0, .int .i64 (kd : Int), .int .i64 0, .map (some w.heap.size)] 155) := ⟨_, rfl⟩
  obtain ⟨w3, hw3⟩ : ∃ w3, w3 = w2.setCell ⟨L.g, f, none⟩ (.pointer (some ⟨w.heap.size + 1, 0, none⟩)) := ⟨_, rfl⟩
  rw [← hw1, ← hw2, ← hw3]
  have b1 : Below w.heap.size w w1 := by rw [hw1]; exact (Below.refl _ _).alloc (Nat.le_refl _) _
  have s1 : w1.heap.size = w.heap.size + 1 := by rw [hw1]; simp
  have b2 : Below w1.heap.size w1 w2 := by rw [hw2]; exact (Below.refl _ _).alloc (Nat.le_refl _) _
  have g2 : GrownS w w2 (fun _ => False) := (grownS_of_below b1).trans (grownS_of_below b2)
  have g23 : GrownS w2 w3 (fun k => k = L.g) := by rw [hw3]; exact GrownS.of (grown_setCell w2 _ _) (fun j e => by simpa using e)
  have g3 : GrownS w w3 (fun k => k = L.g) := (g2.mono (fun _ _ e => e.elim)).trans g23
  refine ⟨?_, g3⟩
  have H2 := H.grownS g2 (H.lt.mono (fun _ _ e => e))
  have lt := H.lt
  have ne2 := H.ne2
  have hfl := (List.getElem?_eq_some_iff.1 hf).1
  have hne : ∀ (j : Nat) (y : Nd), T[j]? = some (some y) → j ≠ f := fun j y hj e => by subst e; rw [hf] at hj; cases hj
  have kn : Blk w3 (w.heap.size + 1) 155 #[.int .i64 0, .int .i64 0, .int .i64 (kd : Int), .int .i64 0, .map (some w.heap.size)] := by
    have h1 : Blk w2 (w.heap.size + 1) 155 #[.int .i64 0, .int .i64 0, .int .i64 (kd : Int), .int .i64 0, .map (some w.heap.size)] := by rw [hw2, ← s1]; exact Blk.new _ _ _
    exact h1.grownS g23 (fun e => by have := lt.g; omega)
  have km : w3.ownsMap Tryz.prog 3 PE w.heap.size 0 (.map []) := by
    have h1 : w1.ownsMap Tryz.prog 3 PE w.heap.size 0 (.map []) := by rw [hw1]; exact World.ownsMap_made w Tryz.prog 3 PE
    exact ownsMap_grownS (ownsMap_grownS h1 (grownS_of_below (S := fun _ => False) b2) (fun e => e)) g23 (fun e => by have := lt.g; omega)
  have ln : (T.set f (some (nd0 kd))).length = T.length := List.length_set
  have sg : ∀ (j : Nat) (y : Nd), (T.set f (some (nd0 kd)))[j]? = some (some y) → (j = f ∧ y = nd0 kd) ∨ (j ≠ f ∧ T[j]? = some (some y)) := fun j y hj => by
    rcases set_get hf hj with ⟨rfl, e⟩ | ⟨e, hj⟩
    · injection e with e
      exact .inl ⟨rfl, e.symm⟩
    · exact .inr ⟨e, hj⟩
  refine ⟨?_, ?_, ?_, ?_, ?_, ?_, ?_, ?_, ?_, ?_⟩
  · rw [ln]
    exact H2.tab.grownS g23 ne2.1.1
  · obtain ⟨h1, h2, cs, h3, h4, h5, h6, h7⟩ := H2.row
    refine ⟨by rw [ln]; exact h1, by rw [ln]; exact h2, cs.setIfInBounds f (.pointer (some ⟨w.heap.size + 1, 0, none⟩)), by rw [hw3]; exact h3.set f _, by simpa using h4, by rw [ln]; exact h5, h6, fun j o hj => ?_⟩
    by_cases e : j = f
    · subst e
      rw [set_same hf] at hj
      injection hj with hj
      subst hj
      rw [Array.getElem?_setIfInBounds_self_of_lt (by omega)]
      show _ = some (Value.pointer (some ⟨updN L.q j (w.heap.size + 1) j, 0, none⟩))
      rw [show updN L.q j (w.heap.size + 1) j = w.heap.size + 1 from if_pos rfl]
    · rw [set_other (fun h2 => e h2.symm)] at hj
      rw [Array.getElem?_setIfInBounds_ne (fun h2 => e h2.symm)]
      show _ = some (ptrN (updN L.q f (w.heap.size + 1) j) o)
      rw [show updN L.q f (w.heap.size + 1) j = L.q j from if_neg e]
      exact h7 j o hj
  · exact H2.store.grownS g23 ne2.2.1.symm ne2.2.2.1.symm ne2.2.2.2.symm
  · intro j y hj
    rcases sg j y hj with ⟨rfl, rfl⟩ | ⟨e, hj⟩
    · show NAt w3 (updN L.q j _ j) (updN L.m j _ j) _ (updF L.pf j _ j)
      rw [show updN L.q j (w.heap.size + 1) j = w.heap.size + 1 from if_pos rfl, show updN L.m j w.heap.size j = w.heap.size from if_pos rfl, show updF L.pf j (fun _ => none) j = (fun _ => none) from if_pos rfl]
      exact ⟨kn, .map [], km, reads0⟩
    · show NAt w3 (updN L.q f _ j) (updN L.m f _ j) _ (updF L.pf f _ j)
      rw [show updN L.q f (w.heap.size + 1) j = L.q j from if_neg e, show updN L.m f w.heap.size j = L.m j from if_neg e, show updF L.pf f (fun _ => none) j = L.pf j from if_neg e]
      have n1 := H.ne hj
      exact (H2.node j y hj).grownS g23 n1.1.2.1 n1.2.2.1
  · intro i j x y hi hj hij
    show updN L.q f _ i ≠ updN L.q f _ j ∧ updN L.m f _ i ≠ updN L.m f _ j
    unfold updN
    rcases sg i x hi with ⟨e1, _⟩ | ⟨e1, hi⟩ <;> rcases sg j y hj with ⟨e2, _⟩ | ⟨e2, hj⟩
    · omega
    · have := lt.each j y hj
      rw [if_pos e1, if_neg e2, if_pos e1, if_neg e2]
      omega
    · have := lt.each i x hi
      rw [if_neg e1, if_pos e2, if_neg e1, if_pos e2]
      omega
    · rw [if_neg e1, if_neg e2, if_neg e1, if_neg e2]
      exact H.apart i j x y hi hj hij
  · intro j y hj k
    show y.has k = isS (updF L.pf f _ j) k
    rcases sg j y hj with ⟨rfl, rfl⟩ | ⟨e, hj⟩
    · rw [show updF L.pf j (fun _ => none) j = (fun _ => none) from if_pos rfl]
      rfl
    · rw [show updF L.pf f (fun _ => none) j = L.pf j from if_neg e]
      exact H.has j y hj k
  · intro j y hj k b hb
    have hb : updF L.pf f _ j k = some b := hb
    rcases sg j y hj with ⟨rfl, rfl⟩ | ⟨e, hj⟩
    · rw [show updF L.pf j (fun _ => none) j = (fun _ => none) from if_pos rfl] at hb
      cases hb
    · rw [show updF L.pf f (fun _ => none) j = L.pf j from if_neg e] at hb
      exact H.part j y hj k b hb
  · intro i j x y hi hj a a' b hb hb'
    have hb1 : updF L.pf f (fun _ => none) i a = some b := hb
    have hb2 : updF L.pf f (fun _ => none) j a' = some b := hb'
    clear hb hb'
    unfold updF at hb1 hb2
    rcases sg i x hi with ⟨e1, _⟩ | ⟨e1, hi⟩
    · rw [if_pos e1] at hb1
      cases hb1
    · rcases sg j y hj with ⟨e2, _⟩ | ⟨e2, hj⟩
      · rw [if_pos e2] at hb2
        cases hb2
      · rw [if_neg e1] at hb1
        rw [if_neg e2] at hb2
        exact H.one i j x y hi hj a a' b hb1 hb2
  · intro j y hj k
    show y.byt k = byteOf L.l (updF L.pf f _ j) k
    rcases sg j y hj with ⟨rfl, rfl⟩ | ⟨e, hj⟩
    · rw [show updF L.pf j (fun _ => none) j = (fun _ => none) from if_pos rfl]
      rfl
    · rw [show updF L.pf f (fun _ => none) j = L.pf j from if_neg e]
      exact H.byte j y hj k
  · show freeN L.l + usedT (T.set f (some (nd0 kd))) = L.l.length
    have h1 := usedT_set T f none (some (nd0 kd)) hf
    have h2 := H.count
    have h3 : usd (some (nd0 kd)) = 0 := by
      show cnt (fun _ => false) = 0
      decide
    rw [h3] at h1
    simp only [usd] at h1
    omega
set_option maxRecDepth 20000 in
set_option maxHeartbeats 1000000 in
theorem tmake_any {w : World} {p nb : Nat} {X : Nat → Prop} {T : TB} (H : TAt w p X T nb) (k : Int) (hX : ∀ j, w.heap.size ≤ j → X j) : Calls Tryz.prog 70 #[.pointer (some ⟨p, 0, none⟩), .int .i64 k] w fun e w' => e = .returned (.tuple #[.int .i64 (makeN T k), .int .i64 (makeE T k)]) ∧ TAt w' p X (makeT T k) nb ∧ GrownS w w' X := by
  have HH : Hid (TAt w p X T nb ∧ GrownS w w X) := hide ⟨H, grownS_of_below (Below.refl _ _)⟩
  cases hk : kindOk k with
  | false =>
    rw [show makeN T k = 0 by unfold makeN; rw [hk]; rfl, show makeE T k = 1 by unfold makeE; rw [hk]; rfl, show makeT T k = T by unfold makeT; rw [hk]; rfl]
    have hk2 : k < 1 ∨ (¬ k < 1 ∧ 3 < k) := by
      unfold kindOk at hk
      simp only [Bool.and_eq_false_iff, decide_eq_false_iff_not] at hk
      omega
    clear hk H
    rcases hk2 with h1 | ⟨h1, h2⟩
    all_goals
      go_enter Tryz.func70, Tryz.ntmps70
      go_wp2
      go_ret2
      exact ⟨rfl, unhide HH⟩
  | true =>
    obtain ⟨L, HL, hin, hnb⟩ := H
    have hk2 : 1 ≤ k ∧ k ≤ 3 := by
      unfold kindOk at hk
      simpa using hk
    have q0 := HL.tab.cell 0 rfl
    have HI := hide (tindex_any w L.g L.c L.q T HL.row)
    have h1 : ¬ k < 1 := by omega
    have h2 : ¬ 3 < k := by omega
    by_cases hf : frAt T < T.length
    · obtain ⟨o, ho, ho2⟩ := frAt_spec (Nat.le_refl _) hf
      rw [show decide (frAt T = frAt T) = true by simp] at ho2
      obtain rfl : o = none := by cases o with | none => rfl | some x => cases ho2
      obtain ⟨kd, rfl⟩ : ∃ kd : Nat, k = kd := ⟨k.toNat, by omega⟩
      rw [show makeN T kd = (frAt T : Int) + 1 by unfold makeN; rw [hk, show decide (frAt T < T.length) = true by simpa using hf]; rfl, show makeE T kd = 0 by unfold makeE; rw [hk, if_pos rfl, if_pos hf], show makeT T kd = T.set (frAt T) (some (nd0 kd)) by unfold makeT; rw [hk, show decide (frAt T < T.length) = true by simpa using hf]; rfl]
      rw [if_pos hf] at HI
      obtain ⟨f, hfe⟩ : ∃ f, f = frAt T := ⟨_, rfl⟩
      rw [← hfe] at HI ho ⊢
      obtain ⟨cs, r1, r2, r3, r4, r5⟩ := HL.row.lies
      have c2 : w.cell? ⟨L.g, f, none⟩ = some (.pointer none) := r1.cell f (r5 f none ho)
      have hgl0 : L.g < w.heap.size := r1.lt
      have HM : Hid (∀ w', w' = (((w.setCell ⟨L.g, f, none⟩ (.pointer (some ⟨w.heap.size + 1, 0, none⟩))).alloc (.map #[] 0)).alloc (.cells #[.int .i64 0, .int .i64 0, .int .i64 (kd : Int), .int .i64 0, .map (some w.heap.size)] 155)) → TAt w' p X (T.set f (some (nd0 kd))) nb ∧ GrownS w w' X) := hide (fun w' hw' => by
        rw [← World.setCell_alloc_past (w := w) _ L.g f _ hgl0, ← World.setCell_alloc_past (w := w.alloc (.map #[] 0)) _ L.g f _ (by simp; omega)] at hw'
        subst hw'
        obtain ⟨t1, t2⟩ := HL.made ho kd
        refine ⟨⟨_, t1, ⟨hin.p, hin.g, hin.s, hin.gs, hin.hs, fun j y hj => ?_⟩, hnb⟩, t2.mono (fun j _ e => by rw [show j = L.g from e]; exact hin.g)⟩
        show X (updN L.q f _ j) ∧ X (updN L.m f _ j)
        unfold updN
        by_cases e : j = f
        · rw [if_pos e, if_pos e]
          exact ⟨hX _ (by omega), hX _ (Nat.le_refl _)⟩
        · rw [if_neg e, if_neg e]
          rw [set_other (fun h2 => e h2.symm)] at hj
          exact hin.each j y hj)
      have hfn : (f : Int) < (T.length : Int) := by omega
      have hmx := HL.row.max
      have f2 := r1.frozen f
      have hgl : L.g < w.heap.size := r1.lt
      have hmm := @run_makeMap Tryz.prog
      have hc2 : ((w.alloc (.map #[] 0)).alloc (.cells #[.int .i64 0, .int .i64 0, .int .i64 (kd : Int), .int .i64 0, .map (some w.heap.size)] 155)).cell? ⟨L.g, f, none⟩ = some (.pointer none) := cell_alloc (cell_alloc c2 _) _
      have hf2 : ((w.alloc (.map #[] 0)).alloc (.cells #[.int .i64 0, .int .i64 0, .int .i64 (kd : Int), .int .i64 0, .map (some w.heap.size)] 155)).frozen? ⟨L.g, f, none⟩ = false := ((r1.alloc _).alloc _).frozen f
      obtain ⟨n, hn⟩ : ∃ n, n = T.length := ⟨_, rfl⟩
      obtain ⟨g, hg⟩ : ∃ g, g = L.g := ⟨_, rfl⟩
      obtain ⟨c, hc⟩ : ∃ c, c = L.c := ⟨_, rfl⟩
      rw [← hn, ← hg, ← hc] at HI
      rw [← hn, ← hg, ← hc] at q0
      rw [← hn] at hfn hmx
      rw [← hg] at HM c2 f2 hgl hc2 hf2
      clear hk hf hfe ho ho2 HH HL hin r1 r2 r3 r5 hn hg hc hk2 r4
      go_enter Tryz.func70, Tryz.ntmps70
      go_wp2_with fail
      refine (unhide HI).mono ?_
      rintro e w1 ⟨rfl, hw1⟩
      rw [show w1 = w from hw1]
      clear hw1
      go_wp2
      go_ret2
      exact ⟨rfl, unhide HM _ rfl⟩
    · rw [show makeN T k = 0 by unfold makeN; rw [hk, show decide (frAt T < T.length) = false by simpa using hf]; rfl, show makeE T k = 21 by unfold makeE; rw [hk, if_pos rfl, if_neg hf], show makeT T k = T by unfold makeT; rw [hk, show decide (frAt T < T.length) = false by simpa using hf]; rfl]
      rw [if_neg hf] at HI
      clear hk HL hin hf hk2
      go_enter Tryz.func70, Tryz.ntmps70
      go_wp2_with fail
      refine (unhide HI).mono ?_
      rintro e w1 ⟨rfl, hw1⟩
      rw [show w1 = w from hw1]
      clear hw1
      go_wp2
      go_ret2
      exact ⟨rfl, unhide HH⟩

set_option maxRecDepth 20000 in
theorem newStore_no (n : Int) (w : World) (h : n < 1 ∨ 4096 < n) : Calls Tryz.prog 69 #[.int .i64 n] w fun e w' => e = .returned (.tuple #[.pointer none, .int .i64 1]) ∧ w' = w := by
  have HN := hide (new_no n w h)
  clear h
  go_enter Tryz.func69, Tryz.ntmps69
  go_wp2_with fail
  refine (unhide HN).mono ?_
  rintro e w1 ⟨rfl, hw1⟩
  rw [show w1 = w from hw1]
  clear hw1
  go_wp2
  go_ret2
  exact ⟨rfl, rfl⟩
set_option maxRecDepth 20000 in
theorem newStore_any (n : Nat) (w : World) (h1 : 1 ≤ n) (h2 : n ≤ 4096) : Calls Tryz.prog 69 #[.int .i64 (n : Int)] w fun e w' => ∃ p g h, e = .returned (.tuple #[.pointer (some ⟨p, 0, none⟩), .int .i64 0]) ∧ Hid (BAt w' p g h (List.replicate n []) ∧ Below w.heap.size w w' ∧ w.heap.size ≤ p ∧ w.heap.size ≤ g ∧ w.heap.size ≤ h) := by
  have HN := hide (new_any n w h1 h2)
  clear h1 h2
  go_enter Tryz.func69, Tryz.ntmps69
  go_wp2_with fail
  refine (unhide HN).mono ?_
  rintro e w1 ⟨p, g, h, rfl, h3⟩
  have H3 := hide h3
  clear h3
  go_wp2
  go_ret2
  exact ⟨_, _, _, rfl, H3⟩
theorem mk_nodes (n : Nat) (hn : n ≤ 1024) : ∃ cs : Array Value, cs.size = n ∧ (∀ i, i < n → cs[i]? = some (Value.pointer none)) ∧ ∀ u : World, (Instr.makeSlice 124 (.int .i64 (n : Int)) (.int .i64 (n : Int))).run Tryz.prog u = .ok (.slice (some ⟨u.heap.size, 0, none⟩) n n) (u.alloc (.cells cs 128)) := by
  obtain ⟨i, hi, hz, hs, hb⟩ := info2 (t := 128) (z := some (.pointer none)) (a := 1) (c := 8) (by kernel_rfl)
  refine ⟨madeCells #[.pointer none] n, size_madeCells _ _, ?_, fun u => ?_⟩
  · intro k hk
    refine made_at _ _ _ hk (fun m hm => ?_) (by decide)
    match m, hm with
    | 0, _ => simp
  · have := run_make (P := Tryz.prog) u 124 128 i (.pointer none) (by kernel_rfl) hi hz .i64 .i64 n n (by omega) (Int.le_refl _) (by rw [hb]; omega) (by omega)
    rw [hs] at this
    simpa [Value.cells] using this
theorem freeN_new (n : Nat) : freeN (List.replicate n []) = n := by
  unfold freeN
  rw [List.countP_replicate]
  simp
theorem TL.fresh {w : World} {n nb p g s gs hs : Nat} {cs : Array Value} (h1 : 1 ≤ n) (h2 : n ≤ 1024) (kp : Blk w p 127 #[.slice (some ⟨g, 0, none⟩) n n, .pointer (some ⟨s, 0, none⟩)]) (kg : Blk w g 128 cs) (hc : cs.size = n) (hz : ∀ i, i < n → cs[i]? = some (Value.pointer none)) (hb : BAt w s gs hs (List.replicate nb [])) :
    TL w p ⟨g, n, s, gs, hs, fun _ => 0, fun _ => 0, fun _ _ => none, List.replicate nb []⟩ (List.replicate n none) := by
  have hno : ∀ (i : Nat) (x : Nd), (List.replicate n (none : Option Nd))[i]? = some (some x) → False := fun i x h => by
    rw [List.getElem?_replicate] at h
    split at h
    · injection h with h
      cases h
    · cases h
  refine ⟨by rw [List.length_replicate]; exact kp, ⟨by simpa using h1, by simpa using h2, cs, kg, hc, by simp, Nat.le_trans h2 (by decide), fun i o h => ?_⟩, hb, fun i x h => (hno i x h).elim, fun i j x y h => (hno i x h).elim, fun i x h => (hno i x h).elim, fun i x h => (hno i x h).elim, fun i j x y h => (hno i x h).elim, fun i x h => (hno i x h).elim, ?_⟩
  · rw [List.getElem?_replicate] at h
    split at h
    · rename_i hi
      injection h with h
      subst h
      exact hz i hi
    · cases h
  · show freeN (List.replicate nb []) + usedT (List.replicate n none) = (List.replicate nb ([] : List UInt8)).length
    rw [freeN_new, usedT_none, List.length_replicate]
    rfl
set_option maxRecDepth 20000 in
set_option maxHeartbeats 1000000 in
theorem tnew_no (n b : Int) (w : World) (h : (n < 1 ∨ 1024 < n) ∨ b < 1 ∨ 4096 < b) : Calls Tryz.prog 51 #[.int .i64 n, .int .i64 b] w fun e w' => e = .returned (.tuple #[.pointer none, .int .i64 1]) ∧ w' = w := by
  by_cases h1 : n < 1
  · clear h
    go_enter Tryz.func51, Tryz.ntmps51
    go_wp2
    go_ret2
    exact ⟨rfl, rfl⟩
  · by_cases h2 : 1024 < n
    · clear h
      go_enter Tryz.func51, Tryz.ntmps51
      go_wp2
      go_ret2
      exact ⟨rfl, rfl⟩
    · have HN := hide (newStore_no b w (by omega))
      clear h
      go_enter Tryz.func51, Tryz.ntmps51
      go_wp2_with fail
      refine (unhide HN).mono ?_
      rintro e w1 ⟨rfl, hw1⟩
      rw [show w1 = w from hw1]
      clear hw1
      go_wp2
      go_ret2
      exact ⟨rfl, rfl⟩
set_option maxRecDepth 20000 in
set_option maxHeartbeats 1000000 in
theorem tnew_any (n b : Nat) (w : World) (h1 : 1 ≤ n) (h2 : n ≤ 1024) (h3 : 1 ≤ b) (h4 : b ≤ 4096) : Calls Tryz.prog 51 #[.int .i64 (n : Int), .int .i64 (b : Int)] w fun e w' => ∃ p, e = .returned (.tuple #[.pointer (some ⟨p, 0, none⟩), .int .i64 0]) ∧ Hid (TAt w' p (fun k => w.heap.size ≤ k) (List.replicate n none) b ∧ Below w.heap.size w w') := by
  obtain ⟨cs, hc, hz, hmk⟩ := mk_nodes n h2
  have HN := hide (newStore_any b w h3 h4)
  have n1 : ¬ (n : Int) < 1 := by omega
  have n2 : ¬ (1024 : Int) < (n : Int) := by omega
  have HE : Hid (∀ w1 s gs hs, (BAt w1 s gs hs (List.replicate b []) ∧ Below w.heap.size w w1 ∧ w.heap.size ≤ s ∧ w.heap.size ≤ gs ∧ w.heap.size ≤ hs) → ∀ w3, w3 = ((w1.alloc (.cells cs 128)).alloc (.cells #[.slice (some ⟨w1.heap.size, 0, none⟩) n n, .pointer (some ⟨s, 0, none⟩)] 127)) → TAt w3 (w1.heap.size + 1) (fun k => w.heap.size ≤ k) (List.replicate n none) b ∧ Below w.heap.size w w3) := hide (fun w1 s gs hs ⟨k1, k2, k3, k4, k5⟩ w3 hw3 => by
    subst hw3
    have b1 : Below w1.heap.size w1 ((w1.alloc (.cells cs 128)).alloc (.cells #[.slice (some ⟨w1.heap.size, 0, none⟩) n n, .pointer (some ⟨s, 0, none⟩)] 127)) := ((Below.refl _ w1).alloc (Nat.le_refl _) _).alloc (by simp) _
    have e1 : (w1.alloc (.cells cs 128)).heap.size = w1.heap.size + 1 := by simp
    have kp := Blk.new (w1.alloc (.cells cs 128)) 127 #[.slice (some ⟨w1.heap.size, 0, none⟩) n n, .pointer (some ⟨s, 0, none⟩)]
    rw [e1] at kp
    have hsz := k2.size
    refine ⟨⟨_, TL.fresh h1 h2 kp ((Blk.new w1 _ cs).alloc _) hc hz (k1.below b1), ⟨by omega, hsz, k3, k4, k5, fun i x h => ?_⟩, by simp⟩, k2.trans (b1.mono hsz)⟩
    rw [List.getElem?_replicate] at h
    split at h
    · injection h with h
      cases h
    · cases h)
  clear hc hz h1 h2 h3 h4
  go_enter Tryz.func51, Tryz.ntmps51
  go_wp2_with fail
  refine (unhide HN).mono ?_
  rintro e w1 ⟨s, gs, hs, rfl, H3⟩
  go_wp2
  go_ret2
  exact ⟨_, rfl, hide (unhide HE w1 s gs hs (unhide H3) _ rfl)⟩

set_option maxRecDepth 20000 in
theorem tfree_nil (w : World) : Calls Tryz.prog 31 #[.pointer none] w fun e w' => e = .returned (.tuple #[.int .i64 0, .int .i64 0]) ∧ w' = w := by
  go_enter Tryz.func31, Tryz.ntmps31
  go_wp2
  go_ret2
  exact ⟨rfl, rfl⟩
/-- How many nodes may still be made. -/
def freeT (T : TB) : Nat := T.countP (·.isNone)
theorem countT_take {T : TB} {k : Nat} {o : Option Nd} (h : T[k]? = some o) : (T.take (k + 1)).countP (·.isNone) = (T.take k).countP (·.isNone) + (if o.isNone then 1 else 0) := by
  rw [List.take_add_one, h, List.countP_append]
  simp [List.countP_cons]
set_option maxRecDepth 20000 in
set_option maxHeartbeats 1000000 in
theorem tfree_any {w : World} {p nb : Nat} {X : Nat → Prop} {T : TB} (H : TAt w p X T nb) : Calls Tryz.prog 31 #[.pointer (some ⟨p, 0, none⟩)] w fun e w' => e = .returned (.tuple #[.int .i64 (freeT T : Int), .int .i64 ((nb - usedT T : Nat) : Int)]) ∧ w' = w := by
  obtain ⟨L, HL, _, hnb⟩ := H
  have HF := hide (free_any w L.s L.gs L.hs L.l HL.store)
  rw [show freeN L.l = nb - usedT T by have := HL.count; omega] at HF
  have q0 := HL.tab.cell 0 rfl
  have q1 := HL.tab.cell 1 rfl
  have hmx := HL.row.max
  obtain ⟨cs, k2, h3, h4, h5, h6⟩ := HL.row.lies
  obtain ⟨n, hn⟩ : ∃ n, n = T.length := ⟨_, rfl⟩
  obtain ⟨g, hg⟩ : ∃ g, g = L.g := ⟨_, rfl⟩
  obtain ⟨c, hc⟩ : ∃ c, c = L.c := ⟨_, rfl⟩
  obtain ⟨s, hs⟩ : ∃ s, s = L.s := ⟨_, rfl⟩
  change _ = some (Value.slice (some ⟨L.g, 0, none⟩) T.length L.c) at q0
  change _ = some (Value.pointer (some ⟨L.s, 0, none⟩)) at q1
  rw [← hn, ← hg, ← hc] at q0
  rw [← hs] at q1 HF
  rw [← hn] at hmx h4
  rw [← hg] at k2
  have HN := hide hn
  have HT := hide h6
  have HK := hide k2
  obtain ⟨r, hr⟩ : ∃ r : Int, r = (freeT T : Int) := ⟨_, rfl⟩
  obtain ⟨r2, hr2⟩ : ∃ r : Int, r = ((nb - usedT T : Nat) : Int) := ⟨_, rfl⟩
  rw [← hr, ← hr2]
  rw [← hr2] at HF
  have HR := hide hr
  clear hn h6 k2 hr hr2 HL hnb hg hc hs h3
  go_enter Tryz.func31, Tryz.ntmps31
  go_wp2
  go_loop [4, 14] (fun f i => ∃ k m : Nat, i = .int .i64 k ∧ f = .int .i64 m ∧ k ≤ n ∧ m ≤ k ∧ Hid (m = (T.take k).countP (·.isNone))) (fun _ i => n - (intOf i).toNat)
  case atStart => exact ⟨0, 0, rfl, rfl, Nat.zero_le _, Nat.le_refl _, hide rfl⟩
  case round =>
    obtain ⟨k, m, rfl, rfl, hk, hm, HM⟩ := hrel
    by_cases hlt : k < n
    · obtain ⟨o, hx⟩ : ∃ o, T[k]? = some o := ⟨_, List.getElem?_eq_getElem (by have := unhide HN; omega)⟩
      have c1 := (unhide HK).cell k (unhide HT k o hx)
      have hk1 : (k : Int) < (n : Int) := by omega
      have hk0 : (0 : Int) ≤ (k : Int) := by omega
      have HC := hide (countT_take hx)
      clear hx
      cases o with
      | none =>
        change w.cell? _ = some (.pointer none) at c1
        go_wp2
        go_round
        case rel => exact ⟨k + 1, m + 1, by go_num, by go_num, by omega, by omega, hide (by rw [unhide HC, ← unhide HM]; rfl)⟩
        case measure => simp [intOf]; omega
      | some x =>
        obtain ⟨qk, hqk⟩ : ∃ qk, qk = L.q k := ⟨_, rfl⟩
        change w.cell? _ = some (.pointer (some ⟨L.q k, 0, none⟩)) at c1
        rw [← hqk] at c1
        clear hqk
        go_wp2
        go_round
        case rel => exact ⟨k + 1, m, by go_num, rfl, by omega, by omega, hide (by rw [unhide HC, ← unhide HM]; rfl)⟩
        case measure => simp [intOf]; omega
    · have HE : Hid (k = n) := hide (by omega)
      go_wp2_with fail
      refine (unhide HF).mono ?_
      rintro e w1 ⟨rfl, hw1⟩
      rw [show w1 = w from hw1]
      clear hw1
      go_wp2
      go_ret2
      refine ⟨?_, rfl⟩
      have h1 := unhide HM
      rw [List.take_of_length_le (by have := unhide HN; have := unhide HE; omega)] at h1
      rw [unhide HR, freeT, ← h1]
      rfl

end Go.Proofs.YtemologkibcdoaaGreatDoor
