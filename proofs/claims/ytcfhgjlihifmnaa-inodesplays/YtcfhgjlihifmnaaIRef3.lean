/-
  The document's table: left, Untie, Loose, Get.
-/
import Derived.Test.YtcfhgjlihifmnaaIRef2
namespace Go.Proofs.Ytcfhgjlihifmnaa
open Go.RowKit Go.Maps

def w5 (w : World) (r a : Nat) (v : Nat → Value) : World := ((((w.setCell ⟨r, a, none⟩ (v 0)).setCell ⟨r, a + 1, none⟩ (v 1)).setCell ⟨r, a + 2, none⟩ (v 2)).setCell ⟨r, a + 3, none⟩ (v 3)).setCell ⟨r, a + 4, none⟩ (v 4)
def s5 (cs : Array Value) (a : Nat) (v : Nat → Value) : Array Value := ((((cs.setIfInBounds a (v 0)).setIfInBounds (a + 1) (v 1)).setIfInBounds (a + 2) (v 2)).setIfInBounds (a + 3) (v 3)).setIfInBounds (a + 4) (v 4)
theorem w5_blk {w : World} {r a : Nat} {t : TypeId} {cs : Array Value} (h : Blk w r t cs) (v : Nat → Value) : Blk (w5 w r a v) r t (s5 cs a v) := ((((h.set a (v 0)).set (a + 1) (v 1)).set (a + 2) (v 2)).set (a + 3) (v 3)).set (a + 4) (v 4)
theorem s5_size (cs : Array Value) (a : Nat) (v : Nat → Value) : (s5 cs a v).size = cs.size := by simp [s5]
theorem s5_in {cs : Array Value} {a : Nat} (v : Nat → Value) (h : a + 5 ≤ cs.size) {j : Nat} (hj : j < 5) : (s5 cs a v)[a + j]? = some (v j) := by
  unfold s5
  simp only [Array.getElem?_setIfInBounds, Array.size_setIfInBounds]
  match j, hj with
  | 0, _ => rw [if_neg (by omega), if_neg (by omega), if_neg (by omega), if_neg (by omega), if_pos (by omega), if_pos (by omega)]
  | 1, _ => rw [if_neg (by omega), if_neg (by omega), if_neg (by omega), if_pos (by omega), if_pos (by omega)]
  | 2, _ => rw [if_neg (by omega), if_neg (by omega), if_pos (by omega), if_pos (by omega)]
  | 3, _ => rw [if_neg (by omega), if_pos (by omega), if_pos (by omega)]
  | 4, _ => rw [if_pos (by omega), if_pos (by omega)]
theorem s5_out {cs : Array Value} {a : Nat} (v : Nat → Value) {m : Nat} (hm : m < a ∨ a + 5 ≤ m) : (s5 cs a v)[m]? = cs[m]? := by
  unfold s5
  simp only [Array.getElem?_setIfInBounds, Array.size_setIfInBounds]
  rw [if_neg (by omega), if_neg (by omega), if_neg (by omega), if_neg (by omega), if_neg (by omega)]
theorem w5_grown (w : World) (r a : Nat) (v : Nat → Value) : GrownS w (w5 w r a v) (fun k => k = r) := by
  have st : ∀ (u : World) (b : Nat) (x : Value), GrownS u (u.setCell ⟨r, b, none⟩ x) (fun k => k = r) := fun u b x => GrownS.of (grown_setCell u _ _) (fun k e => by simpa using e)
  exact ((((st _ _ _).trans (st _ _ _)).trans (st _ _ _)).trans (st _ _ _)).trans (st _ _ _)
/-- A node is set whole. -/
theorem RL.whole {w w0 : World} {q nb : Nat} {K : RLay} {T : TB} {Y S : Nat → Prop} (H : RL w q K T nb) (hin : K.In T q Y) {i h' c' : Nat} {o o' : Option Nd} (hi : T[i]? = some o) (hw : GrownS w w0 S) (hS : ∀ k, k < w.heap.size → ¬ S k) (hh : ∀ x', o' = some x' → HasRow w0 h' x'.has ∧ Y h' ∧ w.heap.size ≤ h') :
    RAt (w5 w0 K.r ((i + 1) * 5) (rcell h' c' o')) q Y (T.set i o') nb ∧ GrownS w (w5 w0 K.r ((i + 1) * 5) (rcell h' c' o')) Y := by
  have hg2 := w5_grown w0 K.r ((i + 1) * 5) (rcell h' c' o')
  have hg : GrownS w (w5 w0 K.r ((i + 1) * 5) (rcell h' c' o')) (fun k => k = K.r) := (hw.mono (fun k hk e => absurd e (hS k hk))).trans hg2
  have hil := (List.getElem?_eq_some_iff.1 hi).1
  have lt := H.lt
  have hst := H.step hi (o' := o') (h' := h') (c' := c') hg (fun k _ e => .inl e) (fun cs hr hold => by
    obtain ⟨cs0, hr0, z1, z2, z3, z4⟩ := H.row
    have e : cs0 = cs := by
      have := (show w.heap[K.r]? = _ from hr0).symm.trans hr
      injection this with this
      injection this
    subst e
    exact ⟨s5 cs0 ((i + 1) * 5) (rcell h' c' o'), w5_blk (hr.grownS hw (hS _ lt.r)) _, s5_size _ _ _, fun j hj => s5_in _ (by omega) hj, fun m hm => s5_out _ hm⟩) (fun x' e => by
    obtain ⟨a1, a2, a3⟩ := hh x' e
    exact a1.grownS hg2 (fun e => by have := lt.r; omega)) (fun x' e j y hj hy => by
    obtain ⟨a1, a2, a3⟩ := hh x' e
    have := lt.each j y hy
    omega)
  exact ⟨⟨_, hst, hin.step hi (fun x' e => (hh x' e).2.1)⟩, hg.mono (fun k _ e => by rw [show k = K.r from e]; exact hin.r)⟩
set_option maxRecDepth 20000 in
set_option maxHeartbeats 1000000 in
theorem rleft_any {w : World} {q nb : Nat} {Y : Nat → Prop} {T : TB} (H : RAt w q Y T nb) {k : Nat} {x : Nd} (hk : T[k]? = some (some x)) :
    Calls Try.prog 60 #[.pointer (some ⟨q, 0, none⟩), .int .i64 ((k : Int) + 1)] w fun e w' => e = .returned (.tuple #[]) ∧ Hid (RAt w' q Y (T.set k (leftN x)) nb ∧ GrownS w w' Y) := by
  obtain ⟨K, HL, hin⟩ := H
  have hkn := (List.getElem?_eq_some_iff.1 hk).1
  have q0 := HL.tab.cell 0 rfl
  change _ = some (Value.slice (some ⟨K.r, 0, none⟩) (T.length + 1) K.c) at q0
  obtain ⟨c0, f0⟩ := HL.cell0 hk
  obtain ⟨c1, f1⟩ := HL.cellN hk (j := 1) (by decide)
  obtain ⟨c2, f2⟩ := HL.cellN hk (j := 2) (by decide)
  obtain ⟨c3, f3⟩ := HL.cellN hk (j := 3) (by decide)
  obtain ⟨c4, f4⟩ := HL.cellN hk (j := 4) (by decide)
  change _ = some (Value.int .i64 (x.kind : Int)) at c0
  change _ = some (Value.int .i64 (x.names : Int)) at c1
  change _ = some (Value.int .i64 (x.users : Int)) at c2
  change _ = some (Value.string (BA (datOf x))) at c3
  change _ = some (Value.slice (some ⟨K.h (k + 1), 0, none⟩) 64 (K.hc (k + 1))) at c4
  have hmx := HL.max
  have HE : Hid (leftN x = none → RAt (w5 w K.r ((k + 1) * 5) (rcell 0 0 none)) q Y (T.set k (leftN x)) nb ∧ GrownS w (w5 w K.r ((k + 1) * 5) (rcell 0 0 none)) Y) := hide (fun e => by
    rw [e]
    exact HL.whole hin hk (w0 := w) (S := fun _ => False) (grownS_of_below (Below.refl _ _)) (fun _ _ e => e) (fun x' e => by cases e))
  have HN : Hid (leftN x = some x → RAt w q Y (T.set k (leftN x)) nb ∧ GrownS w w Y) := hide (fun e => by
    rw [e, set_self hk]
    exact ⟨⟨K, HL, hin⟩, grownS_of_below (Below.refl _ _)⟩)
  obtain ⟨n, hn⟩ : ∃ n, n = T.length := ⟨_, rfl⟩
  obtain ⟨r, hr⟩ : ∃ r, r = K.r := ⟨_, rfl⟩
  obtain ⟨c, hc⟩ : ∃ c, c = K.c := ⟨_, rfl⟩
  rw [← hn, ← hr, ← hc] at q0
  rw [← hr] at c0 c1 c2 c3 c4 f0 f1 f2 f3 f4 HE
  obtain ⟨hb, hhb⟩ : ∃ hb, hb = K.h (k + 1) := ⟨_, rfl⟩
  obtain ⟨hcc, hhc⟩ : ∃ hcc, hcc = K.hc (k + 1) := ⟨_, rfl⟩
  obtain ⟨dd, hdd⟩ : ∃ dd, dd = BA (datOf x) := ⟨_, rfl⟩
  rw [← hhb, ← hhc] at c4
  rw [← hdd] at c3
  obtain ⟨nm, hnm⟩ : ∃ nm, nm = x.names := ⟨_, rfl⟩
  obtain ⟨us, hus⟩ : ∃ us, us = x.users := ⟨_, rfl⟩
  obtain ⟨kd, hkd⟩ : ∃ kd, kd = x.kind := ⟨_, rfl⟩
  have HX := hide (And.intro hnm hus)
  rw [← hnm] at c1
  rw [← hus] at c2
  rw [← hkd] at c0
  have h3 : (k : Int) + 1 < (n : Int) + 1 := by omega
  have h4 : (0 : Int) ≤ (k : Int) + 1 := by omega
  clear HL hin hk hkn hn hr hc hhb hhc hdd hnm hus hkd
  by_cases a1 : nm = 0
  · by_cases a2 : us = 0
    · have HZ := hide (unhide HE (by unfold leftN; rw [if_pos ⟨by rw [← (unhide HX).1]; exact a1, by rw [← (unhide HX).2]; exact a2⟩]))
      subst a1 a2
      unfold w5 at HZ
      clear HE HN HX
      go_enter Try.func60, Try.ntmps60
      go_wp2
      refine bodyPost_end (res0 rfl _ _) rfl ?_
      exact ⟨rfl, HZ⟩
    · have HZ := hide (unhide HN (by unfold leftN; rw [if_neg (fun h => a2 ((unhide HX).2.trans h.2))]))
      have b2 : ((us : Int) == 0) = false := by simp; omega
      subst a1
      clear HE HN HX a2
      go_enter Try.func60, Try.ntmps60
      go_wp2
      refine bodyPost_end (res0 rfl _ _) rfl ?_
      exact ⟨rfl, HZ⟩
  · have HZ := hide (unhide HN (by unfold leftN; rw [if_neg (fun h => a1 ((unhide HX).1.trans h.1))]))
    have b1 : ((nm : Int) == 0) = false := by simp; omega
    clear HE HN HX a1
    go_enter Try.func60, Try.ntmps60
    go_wp2
    refine bodyPost_end (res0 rfl _ _) rfl ?_
    exact ⟨rfl, HZ⟩
set_option maxRecDepth 20000 in
set_option maxHeartbeats 1000000 in
theorem runtie_any {w : World} {q nb : Nat} {Y : Nat → Prop} {T : TB} (H : RAt w q Y T nb) (hgd : ∀ (k : Nat) (x : Nd), T[k]? = some (some x) → 1 ≤ x.kind ∧ x.names ≤ 1000000) (i : Int) (hb : -9223372036854775808 ≤ i ∧ i ≤ 9223372036854775807) :
    Calls Try.prog 37 #[.pointer (some ⟨q, 0, none⟩), .int .i64 i] w fun e w' => e = .returned (.int .i64 (untE T i)) ∧ RAt w' q Y (untT T i) nb ∧ GrownS w w' Y := by
  have HH : Hid (RAt w q Y T nb ∧ GrownS w w Y) := hide ⟨H, grownS_of_below (Below.refl _ _)⟩
  obtain ⟨K, HL, hin⟩ := H
  have HI := hide (ris_any HL (fun k x hx => (hgd k x hx).1) i hb)
  unfold untE untT
  cases hx : ndAt T i with
  | none =>
    rw [hx] at HI
    clear HL hx hin
    go_enter Try.func37, Try.ntmps37
    go_wp2_with fail
    refine (unhide HI).mono ?_
    rintro e w1 ⟨rfl, hw1⟩
    rw [show w1 = w from hw1]
    clear hw1
    go_wp2
    go_ret
    exact ⟨rfl, unhide HH⟩
  | some x =>
    rw [hx] at HI
    obtain ⟨k, rfl, hk, hkn⟩ := ndAt_some hx
    rw [plc_of]
    have q0 := HL.tab.cell 0 rfl
    change _ = some (Value.slice (some ⟨K.r, 0, none⟩) (T.length + 1) K.c) at q0
    obtain ⟨c1, f1⟩ := HL.cellN hk (j := 1) (by decide)
    change _ = some (Value.int .i64 (x.names : Int)) at c1
    have hmx := HL.max
    have hm1 := (hgd k x hk).2
    dsimp only
    obtain ⟨n, hn⟩ : ∃ n, n = T.length := ⟨_, rfl⟩
    obtain ⟨r, hr⟩ : ∃ r, r = K.r := ⟨_, rfl⟩
    obtain ⟨c, hc⟩ : ∃ c, c = K.c := ⟨_, rfl⟩
    rw [← hn, ← hr, ← hc] at q0
    rw [← hr] at c1 f1
    have h3 : (k : Int) + 1 < (n : Int) + 1 := by omega
    have h4 : (0 : Int) ≤ (k : Int) + 1 := by omega
    by_cases h0 : x.names = 0
    · rw [if_pos h0, if_pos h0]
      rw [h0] at c1
      clear HL hx hin hk hkn hn hr hc hgd h0 hm1 f1
      go_enter Try.func37, Try.ntmps37
      go_wp2_with fail
      refine (unhide HI).mono ?_
      rintro e w1 ⟨rfl, hw1⟩
      rw [show w1 = w from hw1]
      clear hw1
      go_wp2
      go_ret
      exact ⟨rfl, unhide HH⟩
    · rw [if_neg h0, if_neg h0]
      obtain ⟨a, ha⟩ : ∃ a, x.names = a + 1 := ⟨x.names - 1, by omega⟩
      have hfl := HL.field hin hk (f := 1) (x' := untN x) (v := .int .i64 (a : Int)) (by decide) (by show Value.int .i64 ((x.names - 1 : Nat) : Int) = _; rw [ha]; rfl) (fun j hj hne => by
        match j, hj, hne with
        | 0, _, _ => rfl
        | 1, _, _ => first | rfl | contradiction
        | 2, _, _ => first | rfl | contradiction
        | 3, _, _ => rfl
        | 4, _, _ => rfl) rfl
      rw [← hr] at hfl
      have HD : Hid (∀ W, Below (w.setCell ⟨r, (k + 1) * 5 + 1, none⟩ (.int .i64 (a : Int))).heap.size (w.setCell ⟨r, (k + 1) * 5 + 1, none⟩ (.int .i64 (a : Int))) W → Calls Try.prog 60 #[.pointer (some ⟨q, 0, none⟩), .int .i64 ((k : Int) + 1)] W fun e w' => e = .returned (.tuple #[]) ∧ Hid (RAt w' q Y (T.set k (leftN (untN x))) nb ∧ GrownS w w' Y)) := hide (fun W hW => by
        refine (rleft_any (hfl.1.below hW) (set_same hk)).mono ?_
        rintro e w' ⟨h1, h2⟩
        rw [List.set_set] at h2
        exact ⟨h1, hide ⟨(unhide h2).1, (hfl.2.trans (grownS_of_below hW)).trans (unhide h2).2⟩⟩)
      have c1' : w.cell? ⟨r, (k + 1) * 5 + 1, none⟩ = some (.int .i64 ((a : Int) + 1)) := by rw [c1, ha]; rfl
      have b1 : (((a : Int) + 1) == 0) = false := by simp; omega
      have ha2 : a ≤ 1000000 := by omega
      clear HL hx hin hk hkn hn hr hc hgd h0 hm1 c1 hfl HH ha
      go_enter Try.func37, Try.ntmps37
      go_wp2_with fail
      refine (unhide HI).mono ?_
      rintro e w1 ⟨rfl, hw1⟩
      rw [show w1 = w from hw1]
      clear hw1
      go_wp2_with fail
      go_region
      all_goals
        go_wp2_with fail
        refine (unhide HD _ (by first | exact below_drew _ 1 | exact Below.refl _ _)).mono ?_
        rintro e w2 ⟨rfl, HX⟩
        go_wp2
        go_ret
        exact ⟨rfl, unhide HX⟩
set_option maxRecDepth 20000 in
set_option maxHeartbeats 1000000 in
theorem rloose_any {w : World} {q nb : Nat} {Y : Nat → Prop} {T : TB} (H : RAt w q Y T nb) (hgd : ∀ (k : Nat) (x : Nd), T[k]? = some (some x) → 1 ≤ x.kind ∧ x.users ≤ 1000000) (i : Int) (hb : -9223372036854775808 ≤ i ∧ i ≤ 9223372036854775807) :
    Calls Try.prog 39 #[.pointer (some ⟨q, 0, none⟩), .int .i64 i] w fun e w' => e = .returned (.int .i64 (looE T i)) ∧ RAt w' q Y (looT T i) nb ∧ GrownS w w' Y := by
  have HH : Hid (RAt w q Y T nb ∧ GrownS w w Y) := hide ⟨H, grownS_of_below (Below.refl _ _)⟩
  obtain ⟨K, HL, hin⟩ := H
  have HI := hide (ris_any HL (fun k x hx => (hgd k x hx).1) i hb)
  unfold looE looT
  cases hx : ndAt T i with
  | none =>
    rw [hx] at HI
    clear HL hx hin
    go_enter Try.func39, Try.ntmps39
    go_wp2_with fail
    refine (unhide HI).mono ?_
    rintro e w1 ⟨rfl, hw1⟩
    rw [show w1 = w from hw1]
    clear hw1
    go_wp2
    go_ret
    exact ⟨rfl, unhide HH⟩
  | some x =>
    rw [hx] at HI
    obtain ⟨k, rfl, hk, hkn⟩ := ndAt_some hx
    rw [plc_of]
    have q0 := HL.tab.cell 0 rfl
    change _ = some (Value.slice (some ⟨K.r, 0, none⟩) (T.length + 1) K.c) at q0
    obtain ⟨c1, f1⟩ := HL.cellN hk (j := 2) (by decide)
    change _ = some (Value.int .i64 (x.users : Int)) at c1
    have hmx := HL.max
    have hm1 := (hgd k x hk).2
    dsimp only
    obtain ⟨n, hn⟩ : ∃ n, n = T.length := ⟨_, rfl⟩
    obtain ⟨r, hr⟩ : ∃ r, r = K.r := ⟨_, rfl⟩
    obtain ⟨c, hc⟩ : ∃ c, c = K.c := ⟨_, rfl⟩
    rw [← hn, ← hr, ← hc] at q0
    rw [← hr] at c1 f1
    have h3 : (k : Int) + 1 < (n : Int) + 1 := by omega
    have h4 : (0 : Int) ≤ (k : Int) + 1 := by omega
    by_cases h0 : x.users = 0
    · rw [if_pos h0, if_pos h0]
      rw [h0] at c1
      clear HL hx hin hk hkn hn hr hc hgd h0 hm1 f1
      go_enter Try.func39, Try.ntmps39
      go_wp2_with fail
      refine (unhide HI).mono ?_
      rintro e w1 ⟨rfl, hw1⟩
      rw [show w1 = w from hw1]
      clear hw1
      go_wp2
      go_ret
      exact ⟨rfl, unhide HH⟩
    · rw [if_neg h0, if_neg h0]
      obtain ⟨a, ha⟩ : ∃ a, x.users = a + 1 := ⟨x.users - 1, by omega⟩
      have hfl := HL.field hin hk (f := 2) (x' := looN x) (v := .int .i64 (a : Int)) (by decide) (by show Value.int .i64 ((x.users - 1 : Nat) : Int) = _; rw [ha]; rfl) (fun j hj hne => by
        match j, hj, hne with
        | 0, _, _ => rfl
        | 1, _, _ => first | rfl | contradiction
        | 2, _, _ => first | rfl | contradiction
        | 3, _, _ => rfl
        | 4, _, _ => rfl) rfl
      rw [← hr] at hfl
      have HD : Hid (∀ W, Below (w.setCell ⟨r, (k + 1) * 5 + 2, none⟩ (.int .i64 (a : Int))).heap.size (w.setCell ⟨r, (k + 1) * 5 + 2, none⟩ (.int .i64 (a : Int))) W → Calls Try.prog 60 #[.pointer (some ⟨q, 0, none⟩), .int .i64 ((k : Int) + 1)] W fun e w' => e = .returned (.tuple #[]) ∧ Hid (RAt w' q Y (T.set k (leftN (looN x))) nb ∧ GrownS w w' Y)) := hide (fun W hW => by
        refine (rleft_any (hfl.1.below hW) (set_same hk)).mono ?_
        rintro e w' ⟨h1, h2⟩
        rw [List.set_set] at h2
        exact ⟨h1, hide ⟨(unhide h2).1, (hfl.2.trans (grownS_of_below hW)).trans (unhide h2).2⟩⟩)
      have c1' : w.cell? ⟨r, (k + 1) * 5 + 2, none⟩ = some (.int .i64 ((a : Int) + 1)) := by rw [c1, ha]; rfl
      have b1 : (((a : Int) + 1) == 0) = false := by simp; omega
      have ha2 : a ≤ 1000000 := by omega
      clear HL hx hin hk hkn hn hr hc hgd h0 hm1 c1 hfl HH ha
      go_enter Try.func39, Try.ntmps39
      go_wp2_with fail
      refine (unhide HI).mono ?_
      rintro e w1 ⟨rfl, hw1⟩
      rw [show w1 = w from hw1]
      clear hw1
      go_wp2_with fail
      go_region
      all_goals
        go_wp2_with fail
        refine (unhide HD _ (by first | exact below_drew _ 1 | exact Below.refl _ _)).mono ?_
        rintro e w2 ⟨rfl, HX⟩
        go_wp2
        go_ret
        exact ⟨rfl, unhide HX⟩

end Go.Proofs.Ytcfhgjlihifmnaa
