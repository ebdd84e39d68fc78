/-
  untie, loose, unused, dropUnused; Untie, Loose.
-/
import Derived.Test.YtcfhgjlihifmnaaIGive
namespace Go.Proofs.Ytcfhgjlihifmnaa
open Go.RowKit Go.Maps

set_option maxRecDepth 20000 in
set_option maxHeartbeats 1000000 in
theorem unused_any (q : Nat) (a b : Nat) (w : World) (c0 : w.cell? ⟨q, 0, none⟩ = some (.int .i64 (a : Int))) (c1 : w.cell? ⟨q, 1, none⟩ = some (.int .i64 (b : Int))) :
    Calls Try.prog 64 #[.pointer (some ⟨q, 0, none⟩)] w fun e w' => e = .returned (.bool (decide (a = 0 ∧ b = 0))) ∧ w' = w := by
  go_enter Try.func64, Try.ntmps64
  go_wp2
  all_goals
    go_ret
    refine ⟨ret_bool ?_, rfl⟩
    simp_all

set_option maxRecDepth 20000 in
set_option maxHeartbeats 1000000 in
theorem untie_no (q : Nat) (w : World) (c0 : w.cell? ⟨q, 0, none⟩ = some (.int .i64 0)) :
    Calls Try.prog 48 #[.pointer (some ⟨q, 0, none⟩)] w fun e w' => e = .returned (.bool false) ∧ w' = w := by
  go_enter Try.func48, Try.ntmps48
  go_wp2
  go_ret
  exact ⟨rfl, rfl⟩
set_option maxRecDepth 20000 in
set_option maxHeartbeats 1000000 in
theorem untie_yes (q a : Nat) (w : World) (c0 : w.cell? ⟨q, 0, none⟩ = some (.int .i64 ((a : Int) + 1))) (f0 : w.frozen? ⟨q, 0, none⟩ = false) (ha : a ≤ 1000000) :
    Calls Try.prog 48 #[.pointer (some ⟨q, 0, none⟩)] w fun e w' => e = .returned (.bool true) ∧ w' = w.setCell ⟨q, 0, none⟩ (.int .i64 (a : Int)) := by
  have h1 : (((a : Int) + 1) == 0) = false := by simp; omega
  go_enter Try.func48, Try.ntmps48
  go_wp2
  go_ret
  exact ⟨rfl, by simp⟩

set_option maxRecDepth 20000 in
set_option maxHeartbeats 1000000 in
theorem loose_no (q : Nat) (w : World) (c0 : w.cell? ⟨q, 1, none⟩ = some (.int .i64 0)) :
    Calls Try.prog 50 #[.pointer (some ⟨q, 0, none⟩)] w fun e w' => e = .returned (.bool false) ∧ w' = w := by
  go_enter Try.func50, Try.ntmps50
  go_wp2
  go_ret
  exact ⟨rfl, rfl⟩
set_option maxRecDepth 20000 in
set_option maxHeartbeats 1000000 in
theorem loose_yes (q a : Nat) (w : World) (c0 : w.cell? ⟨q, 1, none⟩ = some (.int .i64 ((a : Int) + 1))) (f0 : w.frozen? ⟨q, 1, none⟩ = false) (ha : a ≤ 1000000) :
    Calls Try.prog 50 #[.pointer (some ⟨q, 0, none⟩)] w fun e w' => e = .returned (.bool true) ∧ w' = w.setCell ⟨q, 1, none⟩ (.int .i64 (a : Int)) := by
  have h1 : (((a : Int) + 1) == 0) = false := by simp; omega
  go_enter Try.func50, Try.ntmps50
  go_wp2
  go_ret
  exact ⟨rfl, by simp⟩

/-- A node that has no block is no more. -/
theorem TL.drop {w : World} {p : Nat} {L : Lay} {T : TB} (H : TL w p L T) {i : Nat} {x : Nd} (hi : T[i]? = some (some x)) (hc : cnt x.has = 0) : TL (w.setCell ⟨L.g, i, none⟩ (.pointer none)) p L (T.set i none) ∧ GrownS w (w.setCell ⟨L.g, i, none⟩ (.pointer none)) (fun k => k = L.g) := by
  obtain ⟨w', hw'⟩ : ∃ w', w' = w.setCell ⟨L.g, i, none⟩ (.pointer none) := ⟨_, rfl⟩
  rw [← hw']
  have hg : GrownS w w' (fun k => k = L.g) := by rw [hw']; exact GrownS.of (grown_setCell w _ _) (fun j e => by simpa using e)
  have ne2 := H.ne2
  have ln : (T.set i none).length = T.length := List.length_set
  have hil := (List.getElem?_eq_some_iff.1 hi).1
  have sg : ∀ (j : Nat) (y : Nd), (T.set i none)[j]? = some (some y) → T[j]? = some (some y) := fun j y hj => by
    rcases set_get hi hj with ⟨_, e⟩ | ⟨_, hj⟩
    · cases e
    · exact hj
  refine ⟨⟨?_, ?_, H.store.grownS hg ne2.2.1.symm ne2.2.2.1.symm ne2.2.2.2.symm, fun j y hj => ?_, fun j k y z hj hk => H.apart j k y z (sg j y hj) (sg k z hk), fun j y hj => H.has j y (sg j y hj), fun j y hj => H.part j y (sg j y hj), fun j k y z hj hk => H.one j k y z (sg j y hj) (sg k z hk), fun j y hj => H.byte j y (sg j y hj), ?_⟩, hg⟩
  · rw [ln]
    exact H.tab.grownS hg ne2.1.1
  · obtain ⟨h1, h2, cs, h3, h4, h5, h6, h7⟩ := H.row
    refine ⟨by rw [ln]; exact h1, by rw [ln]; exact h2, cs.setIfInBounds i (.pointer none), by rw [hw']; exact h3.set i _, by simpa using h4, by rw [ln]; exact h5, h6, fun j o hj => ?_⟩
    by_cases e : j = i
    · subst e
      rw [set_same hi] at hj
      injection hj with hj
      subst hj
      rw [Array.getElem?_setIfInBounds_self_of_lt (by omega)]
      rfl
    · rw [set_other (fun h2 => e h2.symm)] at hj
      rw [Array.getElem?_setIfInBounds_ne (fun h2 => e h2.symm)]
      exact h7 j o hj
  · have n1 := H.ne (sg j y hj)
    exact (H.node j y (sg j y hj)).grownS hg n1.1.2.1 n1.2.2.1
  · have h1 := usedT_set T i (some x) none hi
    have h2 := H.count
    simp only [usd, hc] at h1
    omega
theorem Lay.In.drop {L : Lay} {T : TB} {p : Nat} {X : Nat → Prop} (h : L.In T p X) {i : Nat} {o : Option Nd} (hi : T[i]? = some o) : L.In (T.set i none) p X :=
  ⟨h.p, h.g, h.s, h.gs, h.hs, fun j y hj => by
    rcases set_get hi hj with ⟨_, e⟩ | ⟨_, hj⟩
    · cases e
    · exact h.each j y hj⟩
set_option maxRecDepth 20000 in
set_option maxHeartbeats 1000000 in
theorem dropUnused_any {w : World} {p nb : Nat} {L : Lay} {T : TB} {X : Nat → Prop} (H : TL w p L T) (hin : L.In T p X) (hnb : L.l.length = nb) {k : Nat} {x : Nd} (hk : T[k]? = some (some x)) :
    Calls Try.prog 49 #[.pointer (some ⟨p, 0, none⟩), .int .i64 ((k : Int) + 1), .pointer (some ⟨L.q k, 0, none⟩)] w fun e w' => e = .returned (.tuple #[]) ∧ Hid (TAt w' p X (T.set k (leftN x)) nb ∧ GrownS w w' X) := by
  have hbk := (H.node k x hk).blk
  have HU := hide (unused_any (L.q k) x.names x.users w (hbk.cell 0 rfl) (hbk.cell 1 rfl))
  by_cases h0 : x.names = 0 ∧ x.users = 0
  · rw [show leftN x = none by unfold leftN; rw [if_pos h0]]
    rw [show decide (x.names = 0 ∧ x.users = 0) = true by simpa using h0] at HU
    have HG := hide (giveFrom_any H hk 0)
    have HE : Hid (∀ w1, (∃ pf l, TL w1 p { L with pf := updF L.pf k pf, l := l } (T.set k (some (xkeep x (fun j => decide (j < 0))))) ∧ l.length = L.l.length ∧ GrownS w w1 (fun j => j = L.m k ∨ j = L.gs ∨ j = L.hs)) →
        (w1.cell? ⟨p, 0, none⟩ = some (.slice (some ⟨L.g, 0, none⟩) T.length L.c) ∧ (∃ v, w1.cell? ⟨L.g, k, none⟩ = some v) ∧ w1.frozen? ⟨L.g, k, none⟩ = false) ∧ Hid (TAt (w1.setCell ⟨L.g, k, none⟩ (.pointer none)) p X (T.set k none) nb ∧ GrownS w (w1.setCell ⟨L.g, k, none⟩ (.pointer none)) X)) := hide (fun w1 ⟨pf, l, t1, t2, t3⟩ => by
      obtain ⟨cs, r1, r2, r3, r4, r5⟩ := t1.row.lies
      obtain ⟨d1, d2⟩ := t1.drop (set_same hk) (by
        show cnt (fun j => x.has j && decide (j < 0)) = 0
        have : (fun j => x.has j && decide (j < 0)) = fun _ => false := by funext j; simp
        rw [this]
        decide)
      rw [List.set_set] at d1
      have hq := t1.tab.cell 0 rfl
      rw [List.length_set] at hq
      refine ⟨⟨hq, ⟨_, r1.cell k (r5 k _ (set_same hk))⟩, r1.frozen k⟩, hide ⟨⟨_, d1, ?_, by show l.length = nb; omega⟩, ?_⟩⟩
      · have := (hin.step hk (xkeep x (fun j => decide (j < 0))) (updF L.pf k pf) l).drop (set_same hk)
        rwa [List.set_set] at this
      · exact (t3.mono (fun j _ e => by rcases e with e | e | e; rw [e]; exact (hin.each k x hk).2; rw [e]; exact hin.gs; rw [e]; exact hin.hs)).trans (d2.mono (fun j _ e => by rw [show j = L.g from e]; exact hin.g)))
    have hmx := H.row.max
    have hkl := (List.getElem?_eq_some_iff.1 hk).1
    obtain ⟨PRE, hPRE⟩ : ∃ P : World → Prop, P = fun w1 => ∃ pf l, TL w1 p { L with pf := updF L.pf k pf, l := l } (T.set k (some (xkeep x (fun j => decide (j < 0))))) ∧ l.length = L.l.length ∧ GrownS w w1 (fun j => j = L.m k ∨ j = L.gs ∨ j = L.hs) := ⟨_, rfl⟩
    have HG2 : Hid (Calls Try.prog 52 #[.pointer (some ⟨p, 0, none⟩), .pointer (some ⟨L.q k, 0, none⟩), .int .i64 0] w fun e w' => e = .returned (.tuple #[]) ∧ PRE w') := hide (by rw [hPRE]; exact unhide HG)
    have HE2 : Hid (∀ w1, PRE w1 → (w1.cell? ⟨p, 0, none⟩ = some (.slice (some ⟨L.g, 0, none⟩) T.length L.c) ∧ (∃ v, w1.cell? ⟨L.g, k, none⟩ = some v) ∧ w1.frozen? ⟨L.g, k, none⟩ = false) ∧ Hid (TAt (w1.setCell ⟨L.g, k, none⟩ (.pointer none)) p X (T.set k none) nb ∧ GrownS w (w1.setCell ⟨L.g, k, none⟩ (.pointer none)) X)) := hide (by rw [hPRE]; exact unhide HE)
    clear hPRE HG HE
    obtain ⟨n, hn⟩ : ∃ n, n = T.length := ⟨_, rfl⟩
    obtain ⟨g, hg⟩ : ∃ g, g = L.g := ⟨_, rfl⟩
    obtain ⟨c, hc⟩ : ∃ c, c = L.c := ⟨_, rfl⟩
    obtain ⟨q, hq⟩ : ∃ q, q = L.q k := ⟨_, rfl⟩
    rw [← hn, ← hg, ← hc] at HE2
    rw [← hq] at HU HG2 ⊢
    rw [← hn] at hkl hmx
    have hki : (k : Int) < (n : Int) := by omega
    clear hn hg hc hq hbk H hin hk h0 hnb
    go_enter Try.func49, Try.ntmps49
    go_wp2_with fail
    refine (unhide HU).mono ?_
    rintro e w1 ⟨rfl, hw1⟩
    rw [show w1 = w from hw1]
    clear hw1
    go_wp2_with fail
    refine (unhide HG2).mono ?_
    rintro e w1 ⟨rfl, hw1⟩
    obtain ⟨⟨c1, ⟨v, c2⟩, c3⟩, HX⟩ := unhide HE2 w1 hw1
    clear hw1
    go_wp2
    refine bodyPost_end (res0 rfl _ _) rfl ?_
    exact ⟨rfl, HX⟩
  · rw [show leftN x = some x by unfold leftN; rw [if_neg h0], set_self hk]
    rw [show decide (x.names = 0 ∧ x.users = 0) = false by simpa using h0] at HU
    have HX : Hid (TAt w p X T nb ∧ GrownS w w X) := hide ⟨⟨L, H, hin, hnb⟩, grownS_of_below (Below.refl _ _)⟩
    obtain ⟨q, hq⟩ : ∃ q, q = L.q k := ⟨_, rfl⟩
    rw [← hq] at HU ⊢
    clear hq hbk H hin hk h0 hnb
    go_enter Try.func49, Try.ntmps49
    go_wp2_with fail
    refine (unhide HU).mono ?_
    rintro e w1 ⟨rfl, hw1⟩
    rw [show w1 = w from hw1]
    clear hw1
    go_wp2
    refine bodyPost_ret (res0 rfl _ _) rfl ?_
    exact ⟨rfl, HX⟩

set_option maxRecDepth 20000 in
theorem tuntie_nil (i : Int) (w : World) : Calls Try.prog 27 #[.pointer none, .int .i64 i] w fun e w' => e = .returned (.int .i64 2) ∧ w' = w := by
  go_enter Try.func27, Try.ntmps27
  go_wp2_with fail
  refine (tfind_nil i w).mono ?_
  rintro e w1 ⟨rfl, hw1⟩
  rw [show w1 = w from hw1]
  clear hw1
  go_wp2
  go_ret
  exact ⟨rfl, rfl⟩
set_option maxRecDepth 20000 in
set_option maxHeartbeats 1000000 in
theorem tuntie_any {w : World} {p nb : Nat} {X : Nat → Prop} {T : TB} (H : TAt w p X T nb) (i : Int) (hb : -9223372036854775808 ≤ i ∧ i ≤ 9223372036854775807) (hm : ∀ (k : Nat) (x : Nd), T[k]? = some (some x) → x.names ≤ 1000000) : Calls Try.prog 27 #[.pointer (some ⟨p, 0, none⟩), .int .i64 i] w fun e w' => e = .returned (.int .i64 (untE T i)) ∧ TAt w' p X (untT T i) nb ∧ GrownS w w' X := by
  have HH : Hid (TAt w p X T nb ∧ GrownS w w X) := hide ⟨H, grownS_of_below (Below.refl _ _)⟩
  obtain ⟨L, HL, hin, hnb⟩ := H
  unfold untE untT
  cases hx : ndAt T i with
  | none =>
    have HF := hide (tfind_none HL hx hb)
    clear HL hx hin
    go_enter Try.func27, Try.ntmps27
    go_wp2_with fail
    refine (unhide HF).mono ?_
    rintro e w1 ⟨rfl, hw1⟩
    rw [show w1 = w from hw1]
    clear hw1
    go_wp2
    go_ret
    exact ⟨rfl, unhide HH⟩
  | some x =>
    obtain ⟨k, rfl, hk, _⟩ := ndAt_some hx
    rw [plc_of]
    have HF := hide (tfind_some HL hk)
    have hn := HL.node k x hk
    have c := hn.blk.cell 0 rfl
    have f := hn.blk.frozen 0
    have hm1 := hm k x hk
    change _ = some (Value.int .i64 (x.names : Int)) at c
    dsimp only
    by_cases h0 : x.names = 0
    · rw [if_pos h0, if_pos h0]
      rw [h0] at c
      have HU := hide (untie_no (L.q k) w c)
      obtain ⟨q, hq⟩ : ∃ q, q = L.q k := ⟨_, rfl⟩
      rw [← hq] at HF HU
      clear HL hx hk hq hin hn hm h0 c f
      go_enter Try.func27, Try.ntmps27
      go_wp2_with fail
      refine (unhide HF).mono ?_
      rintro e w1 ⟨rfl, hw1⟩
      rw [show w1 = w from hw1]
      clear hw1
      go_wp2_with fail
      refine (unhide HU).mono ?_
      rintro e w1 ⟨rfl, hw1⟩
      rw [show w1 = w from hw1]
      clear hw1
      go_wp2
      go_ret
      exact ⟨rfl, unhide HH⟩
    · rw [if_neg h0, if_neg h0]
      obtain ⟨a, ha⟩ : ∃ a, x.names = a + 1 := ⟨x.names - 1, by omega⟩
      have hcell : w.cell? ⟨L.q k, 0, none⟩ = some (.int .i64 ((a : Int) + 1)) := by rw [c, ha]; rfl
      have HU := hide (untie_yes (L.q k) a w hcell f (by omega))
      obtain ⟨_, g1⟩ : TAt (w.setCell ⟨L.q k, 0, none⟩ (.int .i64 (a : Int))) p X (T.set k (some (untN x))) nb ∧ GrownS w (w.setCell ⟨L.q k, 0, none⟩ (.int .i64 (a : Int))) X :=
        HL.cellTurn hin hnb hk (c := 0) (x' := untN x) (by
          have := hn.blk.set 0 (.int .i64 (a : Int))
          have e : (untN x).names = a := by show x.names - 1 = a; omega
          rw [e]
          exact this) rfl rfl
      have HD : Hid (Calls Try.prog 49 #[.pointer (some ⟨p, 0, none⟩), .int .i64 ((k : Int) + 1), .pointer (some ⟨L.q k, 0, none⟩)] (w.setCell ⟨L.q k, 0, none⟩ (.int .i64 (a : Int))) fun e w' => e = .returned (.tuple #[]) ∧ Hid (TAt w' p X (T.set k (leftN (untN x))) nb ∧ GrownS w w' X)) := hide (by
        have hs := HL.cellTL hk (c := 0) (x' := untN x) (v := .int .i64 (a : Int)) (by
          have := hn.blk.set 0 (.int .i64 (a : Int))
          have e : (untN x).names = a := by show x.names - 1 = a; omega
          rw [e]
          exact this) rfl rfl
        refine (dropUnused_any hs (hin.step hk _ _ _) hnb (set_same hk)).mono ?_
        rintro e w' ⟨h1, h2⟩
        rw [List.set_set] at h2
        exact ⟨h1, hide ⟨(unhide h2).1, g1.trans (unhide h2).2⟩⟩)
      obtain ⟨q, hq⟩ : ∃ q, q = L.q k := ⟨_, rfl⟩
      rw [← hq] at HF HU HD
      clear HL hx hk hq hin hn hm h0 c f g1 hcell
      go_enter Try.func27, Try.ntmps27
      go_wp2_with fail
      refine (unhide HF).mono ?_
      rintro e w1 ⟨rfl, hw1⟩
      rw [show w1 = w from hw1]
      clear hw1
      go_wp2_with fail
      refine (unhide HU).mono ?_
      rintro e w1 ⟨rfl, hw1⟩
      rw [show w1 = _ from hw1]
      clear hw1
      go_wp2_with fail
      refine (unhide HD).mono ?_
      rintro e w2 ⟨rfl, HX⟩
      go_wp2
      go_ret
      exact ⟨rfl, unhide HX⟩

set_option maxRecDepth 20000 in
theorem tloose_nil (i : Int) (w : World) : Calls Try.prog 28 #[.pointer none, .int .i64 i] w fun e w' => e = .returned (.int .i64 2) ∧ w' = w := by
  go_enter Try.func28, Try.ntmps28
  go_wp2_with fail
  refine (tfind_nil i w).mono ?_
  rintro e w1 ⟨rfl, hw1⟩
  rw [show w1 = w from hw1]
  clear hw1
  go_wp2
  go_ret
  exact ⟨rfl, rfl⟩
set_option maxRecDepth 20000 in
set_option maxHeartbeats 1000000 in
theorem tloose_any {w : World} {p nb : Nat} {X : Nat → Prop} {T : TB} (H : TAt w p X T nb) (i : Int) (hb : -9223372036854775808 ≤ i ∧ i ≤ 9223372036854775807) (hm : ∀ (k : Nat) (x : Nd), T[k]? = some (some x) → x.users ≤ 1000000) : Calls Try.prog 28 #[.pointer (some ⟨p, 0, none⟩), .int .i64 i] w fun e w' => e = .returned (.int .i64 (looE T i)) ∧ TAt w' p X (looT T i) nb ∧ GrownS w w' X := by
  have HH : Hid (TAt w p X T nb ∧ GrownS w w X) := hide ⟨H, grownS_of_below (Below.refl _ _)⟩
  obtain ⟨L, HL, hin, hnb⟩ := H
  unfold looE looT
  cases hx : ndAt T i with
  | none =>
    have HF := hide (tfind_none HL hx hb)
    clear HL hx hin
    go_enter Try.func28, Try.ntmps28
    go_wp2_with fail
    refine (unhide HF).mono ?_
    rintro e w1 ⟨rfl, hw1⟩
    rw [show w1 = w from hw1]
    clear hw1
    go_wp2
    go_ret
    exact ⟨rfl, unhide HH⟩
  | some x =>
    obtain ⟨k, rfl, hk, _⟩ := ndAt_some hx
    rw [plc_of]
    have HF := hide (tfind_some HL hk)
    have hn := HL.node k x hk
    have c := hn.blk.cell 1 rfl
    have f := hn.blk.frozen 1
    have hm1 := hm k x hk
    change _ = some (Value.int .i64 (x.users : Int)) at c
    dsimp only
    by_cases h0 : x.users = 0
    · rw [if_pos h0, if_pos h0]
      rw [h0] at c
      have HU := hide (loose_no (L.q k) w c)
      obtain ⟨q, hq⟩ : ∃ q, q = L.q k := ⟨_, rfl⟩
      rw [← hq] at HF HU
      clear HL hx hk hq hin hn hm h0 c f
      go_enter Try.func28, Try.ntmps28
      go_wp2_with fail
      refine (unhide HF).mono ?_
      rintro e w1 ⟨rfl, hw1⟩
      rw [show w1 = w from hw1]
      clear hw1
      go_wp2_with fail
      refine (unhide HU).mono ?_
      rintro e w1 ⟨rfl, hw1⟩
      rw [show w1 = w from hw1]
      clear hw1
      go_wp2
      go_ret
      exact ⟨rfl, unhide HH⟩
    · rw [if_neg h0, if_neg h0]
      obtain ⟨a, ha⟩ : ∃ a, x.users = a + 1 := ⟨x.users - 1, by omega⟩
      have hcell : w.cell? ⟨L.q k, 1, none⟩ = some (.int .i64 ((a : Int) + 1)) := by rw [c, ha]; rfl
      have HU := hide (loose_yes (L.q k) a w hcell f (by omega))
      obtain ⟨_, g1⟩ : TAt (w.setCell ⟨L.q k, 1, none⟩ (.int .i64 (a : Int))) p X (T.set k (some (looN x))) nb ∧ GrownS w (w.setCell ⟨L.q k, 1, none⟩ (.int .i64 (a : Int))) X :=
        HL.cellTurn hin hnb hk (c := 1) (x' := looN x) (by
          have := hn.blk.set 1 (.int .i64 (a : Int))
          have e : (looN x).users = a := by show x.users - 1 = a; omega
          rw [e]
          exact this) rfl rfl
      have HD : Hid (Calls Try.prog 49 #[.pointer (some ⟨p, 0, none⟩), .int .i64 ((k : Int) + 1), .pointer (some ⟨L.q k, 0, none⟩)] (w.setCell ⟨L.q k, 1, none⟩ (.int .i64 (a : Int))) fun e w' => e = .returned (.tuple #[]) ∧ Hid (TAt w' p X (T.set k (leftN (looN x))) nb ∧ GrownS w w' X)) := hide (by
        have hs := HL.cellTL hk (c := 1) (x' := looN x) (v := .int .i64 (a : Int)) (by
          have := hn.blk.set 1 (.int .i64 (a : Int))
          have e : (looN x).users = a := by show x.users - 1 = a; omega
          rw [e]
          exact this) rfl rfl
        refine (dropUnused_any hs (hin.step hk _ _ _) hnb (set_same hk)).mono ?_
        rintro e w' ⟨h1, h2⟩
        rw [List.set_set] at h2
        exact ⟨h1, hide ⟨(unhide h2).1, g1.trans (unhide h2).2⟩⟩)
      obtain ⟨q, hq⟩ : ∃ q, q = L.q k := ⟨_, rfl⟩
      rw [← hq] at HF HU HD
      clear HL hx hk hq hin hn hm h0 c f g1 hcell
      go_enter Try.func28, Try.ntmps28
      go_wp2_with fail
      refine (unhide HF).mono ?_
      rintro e w1 ⟨rfl, hw1⟩
      rw [show w1 = w from hw1]
      clear hw1
      go_wp2_with fail
      refine (unhide HU).mono ?_
      rintro e w1 ⟨rfl, hw1⟩
      rw [show w1 = _ from hw1]
      clear hw1
      go_wp2_with fail
      refine (unhide HD).mono ?_
      rintro e w2 ⟨rfl, HX⟩
      go_wp2
      go_ret
      exact ⟨rfl, unhide HX⟩

end Go.Proofs.Ytcfhgjlihifmnaa
