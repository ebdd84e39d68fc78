/-
  find, place; Kind, Size, Links, Tie, Hold.
  giveFrom: a node's blocks are given back, from a part on.
-/
import Derived.Test.YtemologkibcdoaaGreatDoorM05
import Derived.OpenShut

/- find, place; Kind, Size, Links, Tie, Hold. -/
namespace Go.Proofs.YtemologkibcdoaaGreatDoor
open Go.RowKit

set_option maxRecDepth 20000 in
theorem tfind_nil (i : Int) (w : World) : Calls Tryz.prog 67 #[.pointer none, .int .i64 i] w fun e w' => e = .returned (.tuple #[.pointer none, .int .i64 2]) ∧ w' = w := by
  go_enter Tryz.func67, Tryz.ntmps67
  go_wp2
  go_ret2
  exact ⟨rfl, rfl⟩
set_option maxRecDepth 20000 in
theorem place_any (a : Nat) (w : World) (ha : a ≤ 9223372036854775807) : Calls Tryz.prog 91 #[.int .i64 (a : Int)] w fun e w' => e = .returned (.tuple #[.int .i64 ((a / 64 : Nat) : Int), .int .i64 ((a % 64 : Nat) : Int)]) ∧ w' = w := by
  go_enter Tryz.func91, Tryz.ntmps91
  go_wp2
  go_ret2
  refine ⟨?_, rfl⟩
  simp

set_option maxRecDepth 20000 in
set_option maxHeartbeats 1000000 in
theorem tfind_none {w : World} {p : Nat} {L : Lay} {T : TB} (H : TL w p L T) {i : Int} (h : ndAt T i = none) (hb : -9223372036854775808 ≤ i ∧ i ≤ 9223372036854775807) :
    Calls Tryz.prog 67 #[.pointer (some ⟨p, 0, none⟩), .int .i64 i] w fun e w' => e = .returned (.tuple #[.pointer none, .int .i64 23]) ∧ w' = w := by
  have q0 := H.tab.cell 0 rfl
  have hmx := H.row.max
  have hq : (ndAt T i = none) := h
  obtain ⟨cs, k2, h3, h4, h5, h6⟩ := H.row.lies
  have hc := ndAt_none h
  obtain ⟨n, hn⟩ : ∃ n, n = T.length := ⟨_, rfl⟩
  rw [← hn] at q0 hmx hc h4
  clear h H hq
  rcases hc with h1 | h1 | ⟨k, rfl, hk, hkn⟩
  · clear hn h6 k2
    go_enter Tryz.func67, Tryz.ntmps67
    go_wp2
    go_ret2
    exact ⟨rfl, rfl⟩
  · clear hn h6 k2
    have h0 : ¬ i < 1 := by omega
    go_enter Tryz.func67, Tryz.ntmps67
    go_wp2
    go_ret2
    exact ⟨rfl, rfl⟩
  · have c2 := k2.cell k (h6 k none hk)
    change w.cell? _ = some (.pointer none) at c2
    clear hn h6 k2 hk
    have h0 : (k : Int) < (n : Int) := by omega
    go_enter Tryz.func67, Tryz.ntmps67
    go_wp2
    go_ret2
    exact ⟨rfl, rfl⟩
set_option maxRecDepth 20000 in
set_option maxHeartbeats 1000000 in
theorem tfind_some {w : World} {p : Nat} {L : Lay} {T : TB} (H : TL w p L T) {k : Nat} {x : Nd} (hk : T[k]? = some (some x)) :
    Calls Tryz.prog 67 #[.pointer (some ⟨p, 0, none⟩), .int .i64 ((k : Int) + 1)] w fun e w' => e = .returned (.tuple #[.pointer (some ⟨L.q k, 0, none⟩), .int .i64 0]) ∧ w' = w := by
  have q0 := H.tab.cell 0 rfl
  have hmx := H.row.max
  obtain ⟨cs, k2, h3, h4, h5, h6⟩ := H.row.lies
  have hkn := (List.getElem?_eq_some_iff.1 hk).1
  have c2 := k2.cell k (h6 k _ hk)
  change w.cell? _ = some (.pointer (some ⟨L.q k, 0, none⟩)) at c2
  obtain ⟨n, hn⟩ : ∃ n, n = T.length := ⟨_, rfl⟩
  rw [← hn] at q0 hmx hkn h4
  obtain ⟨q, hq⟩ : ∃ q, q = L.q k := ⟨_, rfl⟩
  rw [← hq] at c2 ⊢
  have h0 : (k : Int) < (n : Int) := by omega
  clear hn h6 k2 hk H hq
  go_enter Tryz.func67, Tryz.ntmps67
  go_wp2
  go_ret2
  exact ⟨rfl, rfl⟩

/-- A cell of a node's own turns. -/
theorem TL.cellTL {w : World} {p : Nat} {L : Lay} {T : TB} (H : TL w p L T) {k c : Nat} {x x' : Nd} (hk : T[k]? = some (some x)) {v : Value}
    (hb : Blk (w.setCell ⟨L.q k, c, none⟩ v) (L.q k) 155 #[.int .i64 (x'.names : Int), .int .i64 (x'.users : Int), .int .i64 (x'.kind : Int), .int .i64 (x'.size : Int), .map (some (L.m k))]) (hh : x'.has = x.has) (hy : x'.byt = x.byt) :
    TL (w.setCell ⟨L.q k, c, none⟩ v) p { L with pf := updF L.pf k (L.pf k), l := L.l } (T.set k (some x')) := by
  have hg : GrownS w (w.setCell ⟨L.q k, c, none⟩ v) (fun j => j = L.q k) := GrownS.of (grown_setCell w ⟨L.q k, c, none⟩ v) (fun j e => by simpa using e)
  have n1 := H.ne hk
  obtain ⟨D, d1, d2⟩ := (H.node k x hk).own
  exact H.step hk (x' := x') (pf' := L.pf k) (l' := L.l) hg (fun j _ e => .inl e) (H.store.grownS hg n1.1.2.2.1.symm n1.1.2.2.2.1.symm n1.1.2.2.2.2.symm) ⟨hb, D, ownsMap_grownS d1 hg (H.qm hk hk).symm, d2⟩ (fun j => by rw [hh]; exact H.has k x hk j) (H.part k x hk)
    (fun a a' b h1 h2 => (H.one k k x x hk hk a a' b h1 h2).2) (fun j y a b hj hy2 hp => ⟨fun a' h2 => hj (H.one j k y x hy2 hk a a' b hp h2).1, rfl⟩) (fun j => by rw [hy]; exact H.byte k x hk j) (by rw [hh]) rfl
theorem TL.cellTurn {w : World} {p nb : Nat} {L : Lay} {T : TB} {X : Nat → Prop} (H : TL w p L T) (hin : L.In T p X) (hnb : L.l.length = nb) {k c : Nat} {x x' : Nd} (hk : T[k]? = some (some x)) {v : Value}
    (hb : Blk (w.setCell ⟨L.q k, c, none⟩ v) (L.q k) 155 #[.int .i64 (x'.names : Int), .int .i64 (x'.users : Int), .int .i64 (x'.kind : Int), .int .i64 (x'.size : Int), .map (some (L.m k))]) (hh : x'.has = x.has) (hy : x'.byt = x.byt) :
    TAt (w.setCell ⟨L.q k, c, none⟩ v) p X (T.set k (some x')) nb ∧ GrownS w (w.setCell ⟨L.q k, c, none⟩ v) X := by
  have hg : GrownS w (w.setCell ⟨L.q k, c, none⟩ v) (fun j => j = L.q k) := GrownS.of (grown_setCell w ⟨L.q k, c, none⟩ v) (fun j e => by simpa using e)
  exact ⟨⟨_, H.cellTL hk hb hh hy, hin.step hk _ _ _, hnb⟩, hg.mono (fun j _ e => by rw [show j = L.q k from e]; exact (hin.each k x hk).1)⟩
set_option maxRecDepth 20000 in
theorem tkind_nil (i : Int) (w : World) : Calls Tryz.prog 54 #[.pointer none, .int .i64 i] w fun e w' => e = .returned (.int .i64 0) ∧ w' = w := by
  go_enter Tryz.func54, Tryz.ntmps54
  go_wp2_with fail
  refine (tfind_nil i w).mono ?_
  rintro e w1 ⟨rfl, hw1⟩
  rw [show w1 = w from hw1]
  clear hw1
  go_wp2
  go_ret
  exact ⟨rfl, rfl⟩
set_option maxRecDepth 20000 in
set_option maxHeartbeats 1000000 in
theorem tkind_any {w : World} {p : Nat} {L : Lay} {T : TB} (H : TL w p L T) (i : Int) (hb : -9223372036854775808 ≤ i ∧ i ≤ 9223372036854775807) : Calls Tryz.prog 54 #[.pointer (some ⟨p, 0, none⟩), .int .i64 i] w fun e w' => e = .returned (.int .i64 (kindOf (ndAt T i) : Int)) ∧ w' = w := by
  cases hx : ndAt T i with
  | none =>
    have HF := hide (tfind_none H hx hb)
    clear H hx
    go_enter Tryz.func54, Tryz.ntmps54
    go_wp2_with fail
    refine (unhide HF).mono ?_
    rintro e w1 ⟨rfl, hw1⟩
    rw [show w1 = w from hw1]
    clear hw1
    go_wp2
    go_ret
    exact ⟨rfl, rfl⟩
  | some x =>
    obtain ⟨k, rfl, hk, _⟩ := ndAt_some hx
    have HF := hide (tfind_some H hk)
    have c := (H.node k x hk).blk.cell 2 rfl
    change _ = some (Value.int .i64 (x.kind : Int)) at c
    obtain ⟨q, hq⟩ : ∃ q, q = L.q k := ⟨_, rfl⟩
    rw [← hq] at c HF
    clear H hx hk hq
    go_enter Tryz.func54, Tryz.ntmps54
    go_wp2_with fail
    refine (unhide HF).mono ?_
    rintro e w1 ⟨rfl, hw1⟩
    rw [show w1 = w from hw1]
    clear hw1
    go_wp2
    go_ret
    exact ⟨rfl, rfl⟩
set_option maxRecDepth 20000 in
theorem tsize_nil (i : Int) (w : World) : Calls Tryz.prog 140 #[.pointer none, .int .i64 i] w fun e w' => e = .returned (.int .i64 0) ∧ w' = w := by
  go_enter Tryz.func140, Tryz.ntmps140
  go_wp2_with fail
  refine (tfind_nil i w).mono ?_
  rintro e w1 ⟨rfl, hw1⟩
  rw [show w1 = w from hw1]
  clear hw1
  go_wp2
  go_ret
  exact ⟨rfl, rfl⟩
set_option maxRecDepth 20000 in
set_option maxHeartbeats 1000000 in
theorem tsize_any {w : World} {p : Nat} {L : Lay} {T : TB} (H : TL w p L T) (i : Int) (hb : -9223372036854775808 ≤ i ∧ i ≤ 9223372036854775807) : Calls Tryz.prog 140 #[.pointer (some ⟨p, 0, none⟩), .int .i64 i] w fun e w' => e = .returned (.int .i64 (sizeOfN (ndAt T i) : Int)) ∧ w' = w := by
  cases hx : ndAt T i with
  | none =>
    have HF := hide (tfind_none H hx hb)
    clear H hx
    go_enter Tryz.func140, Tryz.ntmps140
    go_wp2_with fail
    refine (unhide HF).mono ?_
    rintro e w1 ⟨rfl, hw1⟩
    rw [show w1 = w from hw1]
    clear hw1
    go_wp2
    go_ret
    exact ⟨rfl, rfl⟩
  | some x =>
    obtain ⟨k, rfl, hk, _⟩ := ndAt_some hx
    have HF := hide (tfind_some H hk)
    have c := (H.node k x hk).blk.cell 3 rfl
    change _ = some (Value.int .i64 (x.size : Int)) at c
    obtain ⟨q, hq⟩ : ∃ q, q = L.q k := ⟨_, rfl⟩
    rw [← hq] at c HF
    clear H hx hk hq
    go_enter Tryz.func140, Tryz.ntmps140
    go_wp2_with fail
    refine (unhide HF).mono ?_
    rintro e w1 ⟨rfl, hw1⟩
    rw [show w1 = w from hw1]
    clear hw1
    go_wp2
    go_ret
    exact ⟨rfl, rfl⟩
set_option maxRecDepth 20000 in
theorem tlinks_nil (i : Int) (w : World) : Calls Tryz.prog 141 #[.pointer none, .int .i64 i] w fun e w' => e = .returned (.int .i64 0) ∧ w' = w := by
  go_enter Tryz.func141, Tryz.ntmps141
  go_wp2_with fail
  refine (tfind_nil i w).mono ?_
  rintro e w1 ⟨rfl, hw1⟩
  rw [show w1 = w from hw1]
  clear hw1
  go_wp2
  go_ret
  exact ⟨rfl, rfl⟩
set_option maxRecDepth 20000 in
set_option maxHeartbeats 1000000 in
theorem tlinks_any {w : World} {p : Nat} {L : Lay} {T : TB} (H : TL w p L T) (i : Int) (hb : -9223372036854775808 ≤ i ∧ i ≤ 9223372036854775807) : Calls Tryz.prog 141 #[.pointer (some ⟨p, 0, none⟩), .int .i64 i] w fun e w' => e = .returned (.int .i64 (namesOf (ndAt T i) : Int)) ∧ w' = w := by
  cases hx : ndAt T i with
  | none =>
    have HF := hide (tfind_none H hx hb)
    clear H hx
    go_enter Tryz.func141, Tryz.ntmps141
    go_wp2_with fail
    refine (unhide HF).mono ?_
    rintro e w1 ⟨rfl, hw1⟩
    rw [show w1 = w from hw1]
    clear hw1
    go_wp2
    go_ret
    exact ⟨rfl, rfl⟩
  | some x =>
    obtain ⟨k, rfl, hk, _⟩ := ndAt_some hx
    have HF := hide (tfind_some H hk)
    have c := (H.node k x hk).blk.cell 0 rfl
    change _ = some (Value.int .i64 (x.names : Int)) at c
    obtain ⟨q, hq⟩ : ∃ q, q = L.q k := ⟨_, rfl⟩
    rw [← hq] at c HF
    clear H hx hk hq
    go_enter Tryz.func141, Tryz.ntmps141
    go_wp2_with fail
    refine (unhide HF).mono ?_
    rintro e w1 ⟨rfl, hw1⟩
    rw [show w1 = w from hw1]
    clear hw1
    go_wp2
    go_ret
    exact ⟨rfl, rfl⟩
set_option maxRecDepth 20000 in
theorem ttie_nil (i : Int) (w : World) : Calls Tryz.prog 71 #[.pointer none, .int .i64 i] w fun e w' => e = .returned (.int .i64 2) ∧ w' = w := by
  go_enter Tryz.func71, Tryz.ntmps71
  go_wp2_with fail
  refine (tfind_nil i w).mono ?_
  rintro e w1 ⟨rfl, hw1⟩
  rw [show w1 = w from hw1]
  clear hw1
  go_wp2
  go_ret
  exact ⟨rfl, rfl⟩
set_option maxRecDepth 20000 in
set_option maxHeartbeats 1000000 in
theorem ttie_any {w : World} {p nb : Nat} {X : Nat → Prop} {T : TB} (H : TAt w p X T nb) (i : Int) (hb : -9223372036854775808 ≤ i ∧ i ≤ 9223372036854775807) (hm : ∀ (k : Nat) (x : Nd), T[k]? = some (some x) → x.names ≤ 1000000) : Calls Tryz.prog 71 #[.pointer (some ⟨p, 0, none⟩), .int .i64 i] w fun e w' => e = .returned (.int .i64 (tieE T i)) ∧ TAt w' p X (tieT T i) nb ∧ GrownS w w' X := by
  obtain ⟨L, HL, hin, hnb⟩ := H
  unfold tieE tieT
  cases hx : ndAt T i with
  | none =>
    have HF := hide (tfind_none HL hx hb)
    have HE : Hid (TAt w p X T nb ∧ GrownS w w X) := hide ⟨⟨L, HL, hin, hnb⟩, grownS_of_below (Below.refl _ _)⟩
    clear HL hx hin
    go_enter Tryz.func71, Tryz.ntmps71
    go_wp2_with fail
    refine (unhide HF).mono ?_
    rintro e w1 ⟨rfl, hw1⟩
    rw [show w1 = w from hw1]
    clear hw1
    go_wp2
    go_ret
    exact ⟨rfl, unhide HE⟩
  | some x =>
    obtain ⟨k, rfl, hk, _⟩ := ndAt_some hx
    rw [plc_of]
    have HF := hide (tfind_some HL hk)
    have hn := HL.node k x hk
    have c := hn.blk.cell 0 rfl
    have f := hn.blk.frozen 0
    have hm1 := hm k x hk
    change _ = some (Value.int .i64 (x.names : Int)) at c
    have HE : Hid (TAt (w.setCell ⟨L.q k, 0, none⟩ (.int .i64 ((x.names : Int) + 1))) p X (T.set k (some (tieN x))) nb ∧ GrownS w (w.setCell ⟨L.q k, 0, none⟩ (.int .i64 ((x.names : Int) + 1))) X) := hide (by
      exact HL.cellTurn hin hnb hk (c := 0) (x' := tieN x) (hn.blk.set 0 _) rfl rfl)
    obtain ⟨q, hq⟩ : ∃ q, q = L.q k := ⟨_, rfl⟩
    rw [← hq] at c f HF HE
    obtain ⟨n, hn2⟩ : ∃ n, n = x.names := ⟨_, rfl⟩
    rw [← hn2] at c hm1 HE
    clear HL hx hk hq hin hn hm hn2
    go_enter Tryz.func71, Tryz.ntmps71
    go_wp2_with fail
    refine (unhide HF).mono ?_
    rintro e w1 ⟨rfl, hw1⟩
    rw [show w1 = w from hw1]
    clear hw1
    go_wp2
    go_ret
    exact ⟨rfl, unhide HE⟩
set_option maxRecDepth 20000 in
theorem thold_nil (i : Int) (w : World) : Calls Tryz.prog 87 #[.pointer none, .int .i64 i] w fun e w' => e = .returned (.int .i64 2) ∧ w' = w := by
  go_enter Tryz.func87, Tryz.ntmps87
  go_wp2_with fail
  refine (tfind_nil i w).mono ?_
  rintro e w1 ⟨rfl, hw1⟩
  rw [show w1 = w from hw1]
  clear hw1
  go_wp2
  go_ret
  exact ⟨rfl, rfl⟩
set_option maxRecDepth 20000 in
set_option maxHeartbeats 1000000 in
theorem thold_any {w : World} {p nb : Nat} {X : Nat → Prop} {T : TB} (H : TAt w p X T nb) (i : Int) (hb : -9223372036854775808 ≤ i ∧ i ≤ 9223372036854775807) (hm : ∀ (k : Nat) (x : Nd), T[k]? = some (some x) → x.users ≤ 1000000) : Calls Tryz.prog 87 #[.pointer (some ⟨p, 0, none⟩), .int .i64 i] w fun e w' => e = .returned (.int .i64 (tieE T i)) ∧ TAt w' p X (holdT T i) nb ∧ GrownS w w' X := by
  obtain ⟨L, HL, hin, hnb⟩ := H
  unfold tieE holdT
  cases hx : ndAt T i with
  | none =>
    have HF := hide (tfind_none HL hx hb)
    have HE : Hid (TAt w p X T nb ∧ GrownS w w X) := hide ⟨⟨L, HL, hin, hnb⟩, grownS_of_below (Below.refl _ _)⟩
    clear HL hx hin
    go_enter Tryz.func87, Tryz.ntmps87
    go_wp2_with fail
    refine (unhide HF).mono ?_
    rintro e w1 ⟨rfl, hw1⟩
    rw [show w1 = w from hw1]
    clear hw1
    go_wp2
    go_ret
    exact ⟨rfl, unhide HE⟩
  | some x =>
    obtain ⟨k, rfl, hk, _⟩ := ndAt_some hx
    rw [plc_of]
    have HF := hide (tfind_some HL hk)
    have hn := HL.node k x hk
    have c := hn.blk.cell 1 rfl
    have f := hn.blk.frozen 1
    have hm1 := hm k x hk
    change _ = some (Value.int .i64 (x.users : Int)) at c
    have HE : Hid (TAt (w.setCell ⟨L.q k, 1, none⟩ (.int .i64 ((x.users : Int) + 1))) p X (T.set k (some (holdN x))) nb ∧ GrownS w (w.setCell ⟨L.q k, 1, none⟩ (.int .i64 ((x.users : Int) + 1))) X) := hide (by
      exact HL.cellTurn hin hnb hk (c := 1) (x' := holdN x) (hn.blk.set 1 _) rfl rfl)
    obtain ⟨q, hq⟩ : ∃ q, q = L.q k := ⟨_, rfl⟩
    rw [← hq] at c f HF HE
    obtain ⟨n, hn2⟩ : ∃ n, n = x.users := ⟨_, rfl⟩
    rw [← hn2] at c hm1 HE
    clear HL hx hk hq hin hn hm hn2
    go_enter Tryz.func87, Tryz.ntmps87
    go_wp2_with fail
    refine (unhide HF).mono ?_
    rintro e w1 ⟨rfl, hw1⟩
    rw [show w1 = w from hw1]
    clear hw1
    go_wp2
    go_ret
    exact ⟨rfl, unhide HE⟩

end Go.Proofs.YtemologkibcdoaaGreatDoor

/- giveFrom: a node's blocks are given back, from a part on. -/
namespace Go.Proofs.YtemologkibcdoaaGreatDoor
open Go.RowKit Go.Maps

theorem GrownS.after {w w1 w2 : World} {S S' : Nat → Prop} (h : GrownS w w1 S) (h2 : GrownS w1 w2 S') (hs : ∀ k, k < w.heap.size → S' k → S k) : GrownS w w2 S :=
  ⟨h2.os.trans h.os, h2.tape.trans h.tape, h2.output.trans h.output, Nat.le_trans h.size h2.size, fun k hk hn => (h2.block k (Nat.lt_of_lt_of_le hk h.size) (fun e => hn (hs k hk e))).trans (h.block k hk hn)⟩
theorem isKey (a : Int) : WideAt.IsKeyLit (.int .i64 a) := trivial
theorem ownsMap_tight {w : World} {b n : Nat} {D : DataW Unit} (h : w.ownsMap Tryz.prog 3 PE b n D) : w.ownsMap Tryz.prog 3 PE b (Maps.size D) D := by
  obtain ⟨es, clock, hb, F, _, rfl⟩ := h
  exact ⟨es, clock, hb, F, by simp [Maps.size, length_sorted], rfl⟩
theorem ranges_grownS {w w' : World} {S : Nat → Prop} {b r n cn : Nat} {D : DataW Unit} {left : Lit → Bool} (h : w.ranges Tryz.prog 3 PE b r n D left cn) (hg : GrownS w w' S) (hb : ¬ S b) (hr : ¬ S r) : w'.ranges Tryz.prog 3 PE b r n D left cn := by
  have h1 := h.owns.lt
  have h2 := h.lt
  obtain ⟨es, clock, since, seen, c0, k1, k2, k3, k4, k5, k6⟩ := h
  exact ⟨es, clock, since, seen, c0, (hg.block b h1 hb).trans k1, k2, k3, k4, (hg.block r h2 hr).trans k5, k6⟩
theorem Reads.key {D : DataW Unit} {pf : PF} (h : Reads D pf) {x c : Int} (hat : ∀ zd, D.atKey (.int .i64 x) zd = .lit (.int .i64 c)) : ∃ k b : Nat, x = (k : Int) ∧ pf k = some b ∧ c = (b : Int) + 1 ∧ k < 64 := by
  have h1 := has_true_of_atKey hat
  rw [h.has] at h1
  simp only [Bool.and_eq_true, decide_eq_true_eq] at h1
  obtain ⟨b, hb⟩ := Option.isSome_iff_exists.1 h1.2
  refine ⟨x.toNat, b, by omega, hb, ?_, h.few _ h1.2⟩
  have h2 := h.at' _ _ hb (.lit (.int .i64 0))
  rw [show ((x.toNat : Nat) : Int) = x by omega, hat] at h2
  injection h2 with h2
  injection h2
def pdel (pf : PF) (k : Nat) : PF := fun j => if j = k then none else pf j
def pput (pf : PF) (k b : Nat) : PF := fun j => if j = k then some b else pf j
theorem key_ne {a b : Int} (h : a ≠ b) : Lit.int .i64 a ≠ Lit.int .i64 b := fun e => h (by injection e)
theorem isS_del (pf : PF) (k : Nat) : isS (pdel pf k) = fun j => if j = k then false else isS pf j := by
  funext j
  unfold isS pdel
  split <;> rfl
theorem isS_put (pf : PF) (k b : Nat) : isS (pput pf k b) = fun j => if j = k then true else isS pf j := by
  funext j
  unfold isS pput
  split <;> rfl
theorem Reads.del {D : DataW Unit} {pf : PF} (h : Reads D pf) {k b : Nat} (hb : pf k = some b) : Reads (D.del (.int .i64 (k : Int))) (pdel pf k) := by
  have hk : isS pf k = true := by unfold isS; rw [hb]; rfl
  refine ⟨h.isMap.del _, h.tidy.del _, fun j => ?_, fun j c hj z => ?_, ?_, fun j hj => ?_⟩
  · by_cases e : j = (k : Int)
    · subst e
      rw [has_del_same, isS_del]
      simp
    · rw [has_del_other (key_ne e), h.has, isS_del]
      by_cases h0 : 0 ≤ j
      · show _ = (_ && (if j.toNat = k then false else isS pf j.toNat))
        rw [show (if j.toNat = k then false else isS pf j.toNat) = isS pf j.toNat from if_neg (by omega)]
      · simp [h0]
  · unfold pdel at hj
    split at hj
    · cases hj
    · rw [atKey_del_other (key_ne (by omega))]
      exact h.at' j c hj z
  · have h1 := size_del (k := .int .i64 (k : Int)) h.tidy
    have hh : Maps.has D (.int .i64 (k : Int)) = true := by rw [h.has]; simp [hk]
    rw [hh, if_pos rfl, h.size] at h1
    have h2 := cnt_upd (isS pf) k false (h.few k hk)
    rw [hk, if_pos rfl, if_neg (by decide)] at h2
    rw [isS_del]
    omega
  · rw [isS_del] at hj
    dsimp only at hj
    split at hj
    · cases hj
    · exact h.few j hj
theorem Reads.put {D : DataW Unit} {pf : PF} (h : Reads D pf) {k : Nat} (b : Nat) (hk : pf k = none) (hk64 : k < 64) : Reads (D.put (.int .i64 (k : Int)) (.lit (.int .i64 ((b : Int) + 1)))) (pput pf k b) := by
  have hs : isS pf k = false := by unfold isS; rw [hk]; rfl
  refine ⟨h.isMap.put _ _, h.tidy.put (isKey _) _, fun j => ?_, fun j c hj z => ?_, ?_, fun j hj => ?_⟩
  · by_cases e : j = (k : Int)
    · subst e
      rw [has_put_same h.isMap (isKey _), isS_put]
      simp
    · rw [has_put_other (key_ne e), h.has, isS_put]
      by_cases h0 : 0 ≤ j
      · show _ = (_ && (if j.toNat = k then true else isS pf j.toNat))
        rw [show (if j.toNat = k then true else isS pf j.toNat) = isS pf j.toNat from if_neg (by omega)]
      · simp [h0]
  · unfold pput at hj
    split at hj
    · rename_i e
      subst e
      injection hj with hj
      subst hj
      exact atKey_put_same h.isMap (isKey _) _ _
    · rw [atKey_put_other (key_ne (by omega))]
      exact h.at' j c hj z
  · have h1 := size_put (k := .int .i64 (k : Int)) h.tidy (.lit (.int .i64 ((b : Int) + 1)))
    have hh : Maps.has D (.int .i64 (k : Int)) = false := by rw [h.has]; simp [hs]
    rw [hh, if_neg (by decide), h.size] at h1
    have h2 := cnt_upd (isS pf) k true hk64
    rw [hs, if_pos rfl, if_neg (by decide)] at h2
    rw [isS_put]
    omega
  · rw [isS_put] at hj
    dsimp only at hj
    split at hj
    · omega
    · exact h.few j hj
theorem freeN_set {l : BL} {b : Nat} {y : List UInt8} (h : l[b]? = some y) (z : List UInt8) : freeN (l.set b z) + (if y.isEmpty then 1 else 0) = freeN l + (if z.isEmpty then 1 else 0) := by
  unfold freeN
  induction l generalizing b with
  | nil => simp at h
  | cons a l ih =>
    cases b with
    | zero =>
      simp at h
      subst h
      simp only [List.set_cons_zero, List.countP_cons]
      omega
    | succ b =>
      simp at h
      have := ih h
      simp only [List.set_cons_succ, List.countP_cons]
      omega
/-- A part loses its block. -/
def xdel (x : Nd) (k : Nat) : Nd := { x with has := fun j => if j = k then false else x.has j, byt := fun j => if j / 64 = k then 0 else x.byt j }
theorem TL.gave {w w' : World} {p : Nat} {L : Lay} {T : TB} (H : TL w p L T) {i : Nat} {x : Nd} (hi : T[i]? = some (some x)) {kk b : Nat} (hb : L.pf i kk = some b) (hg : GrownS w w' (fun k => k = L.m i ∨ k = L.gs ∨ k = L.hs))
    (hst : BAt w' L.s L.gs L.hs (L.l.set b [])) (hn : NAt w' (L.q i) (L.m i) (xdel x kk) (pdel (L.pf i) kk)) :
    TL w' p { L with pf := updF L.pf i (pdel (L.pf i) kk), l := L.l.set b [] } (T.set i (some (xdel x kk))) := by
  obtain ⟨D, d1, d2⟩ := (H.node i x hi).own
  obtain ⟨y, hy, hyn⟩ := H.part i x hi kk b hb
  have hk : isS (L.pf i) kk = true := by unfold isS; rw [hb]; rfl
  have ho : ∀ j c, pdel (L.pf i) kk j = some c → j ≠ kk ∧ L.pf i j = some c ∧ c ≠ b := fun j c hj => by
    unfold pdel at hj
    split at hj
    · cases hj
    · rename_i hne
      exact ⟨hne, hj, fun e => hne (by subst e; exact (H.one i i x x hi hi j kk c hj hb).2)⟩
  refine H.step hi hg (fun k _ e => .inr e) hst hn (fun k => ?_) (fun k c hc => ?_) (fun k k' c h1 h2 => ?_) (fun j z k c hj hz hc => ⟨fun k' h2 => ?_, ?_⟩) (fun j => ?_) ?_ (by simp)
  · rw [isS_del]
    show (if k = kk then false else x.has k) = if k = kk then false else isS (L.pf i) k
    rw [H.has i x hi k]
  · obtain ⟨_, h2, h3⟩ := ho k c hc
    rw [List.getElem?_set, if_neg (fun e => h3 e.symm)]
    exact H.part i x hi k c h2
  · exact (H.one i i x x hi hi k k' c (ho k c h1).2.1 (ho k' c h2).2.1).2
  · exact hj (H.one j i z x hz hi k k' c hc (ho k' c h2).2.1).1
  · rw [List.getElem?_set, if_neg]
    intro e
    subst e
    exact hj (H.one j i z x hz hi k kk b hc hb).1
  · show (if j / 64 = kk then 0 else x.byt j) = byteOf (L.l.set b []) (pdel (L.pf i) kk) j
    unfold byteOf
    by_cases e : j / 64 = kk
    · rw [if_pos e, show pdel (L.pf i) kk (j / 64) = none from if_pos e]
    · rw [if_neg e, H.byte i x hi j]
      unfold byteOf
      rw [show pdel (L.pf i) kk (j / 64) = L.pf i (j / 64) from if_neg e]
      cases hc : L.pf i (j / 64) with
      | none => rfl
      | some c =>
        show bAt L.l c _ = bAt (L.l.set b []) c _
        have hcb : c ≠ b := fun e2 => e (by subst e2; exact (H.one i i x x hi hi _ kk c hc hb).2)
        rw [bAt_set (List.getElem?_eq_some_iff.1 hy).1, if_neg hcb]
  · have h1 := freeN_set hy []
    have h2 := cnt_upd x.has kk false (d2.few kk hk)
    have h3 := H.has i x hi kk
    rw [hk] at h3
    rw [h3] at h2
    have h4 : y.isEmpty = false := by cases y with | nil => exact absurd rfl hyn | cons _ _ => rfl
    rw [h4] at h1
    rw [if_neg (by decide), if_pos (by rfl)] at h1
    rw [if_pos rfl, if_neg (by decide)] at h2
    show freeN (L.l.set b []) + cnt (fun j => if j = kk then false else x.has j) = _
    omega
/-- What is left of a node when only some parts keep their blocks. -/
def xkeep (x : Nd) (keep : Nat → Bool) : Nd := { x with has := fun j => x.has j && keep j, byt := fun j => if keep (j / 64) then x.byt j else 0 }
theorem xkeep_del (x : Nd) (keep : Nat → Bool) (k : Nat) : xdel (xkeep x keep) k = xkeep x (fun j => if j = k then false else keep j) := by
  unfold xdel xkeep
  congr 1
  · funext j
    dsimp only
    split <;> simp
  · funext j
    dsimp only
    split <;> rename_i h <;> simp [h]
theorem TL.xkeep_all {w : World} {p : Nat} {L : Lay} {T : TB} (H : TL w p L T) {i : Nat} {x : Nd} (hi : T[i]? = some (some x)) {keep : Nat → Bool} (hk : ∀ j, x.has j = true → keep j = true) : xkeep x keep = x := by
  unfold xkeep
  cases hx : x with
  | mk kind names users size byt has =>
    subst hx
    congr 1
    · funext j
      dsimp only
      split
      · rfl
      · rename_i h
        have h2 := H.byte i _ hi j
        have h3 := H.has i _ hi (j / 64)
        dsimp only at h2 h3
        rw [h2]
        unfold byteOf
        cases hc : L.pf i (j / 64) with
        | none => rfl
        | some c =>
          unfold isS at h3
          rw [hc] at h3
          exact absurd (hk (j / 64) h3) h
    · funext j
      dsimp only
      cases h : has j with
      | false => rfl
      | true => rw [hk j h]; rfl
theorem keyI {a : Int} (h : (Lit.int .i64 a).wf = true) : keyOf Tryz.prog 3 (.int .i64 a) = some (.int .i64 a) := keyOf_int_mk Tryz.underlying3 h
theorem updF_twice (f : Nat → PF) (i : Nat) (a b : PF) : updF (updF f i a) i b = updF f i b := by
  funext j
  unfold updF
  split <;> rfl
theorem set_self {T : TB} {i : Nat} {o : Option Nd} (h : T[i]? = some o) : T.set i o = T := by
  apply List.ext_getElem?
  intro j
  rw [List.getElem?_set]
  split
  · rename_i e
    subst e
    rw [if_pos (List.getElem?_eq_some_iff.1 h).1, h]
  · rfl
theorem updF_self (f : Nat → PF) (i : Nat) : updF f i (f i) = f := by
  funext j
  unfold updF
  split
  · rename_i e; rw [e]
  · rfl

/-- How far giveFrom is. -/
structure GF (w wr : World) (p : Nat) (L : Lay) (T : TB) (i : Nat) (x : Nd) (part n : Nat) (left : Lit → Bool) (cn : Nat) (pf : PF) (l : BL) (D : DataW Unit) : Prop where
  tl : TL wr p { L with pf := updF L.pf i pf, l := l } (T.set i (some (xkeep x (fun j => decide (part ≤ j) == false || left (.int .i64 (j : Int))))))
  rg : wr.ranges Tryz.prog 3 PE (L.m i) w.heap.size n D left cn
  rd : Reads D pf
  len : l.length = L.l.length
  gr : GrownS w wr (fun k => k = L.m i ∨ k = L.gs ∨ k = L.hs)

set_option maxRecDepth 20000 in
set_option maxHeartbeats 2000000 in
theorem giveFrom_any {w : World} {p : Nat} {L : Lay} {T : TB} (H : TL w p L T) {i : Nat} {x : Nd} (hi : T[i]? = some (some x)) (part : Nat) :
    Calls Tryz.prog 106 #[.pointer (some ⟨p, 0, none⟩), .pointer (some ⟨L.q i, 0, none⟩), .int .i64 (part : Int)] w fun e w' => e = .returned (.tuple #[]) ∧ ∃ pf l, TL w' p { L with pf := updF L.pf i pf, l := l } (T.set i (some (xkeep x (fun j => decide (j < part))))) ∧ l.length = L.l.length ∧ GrownS w w' (fun k => k = L.m i ∨ k = L.gs ∨ k = L.hs) := by
  obtain ⟨D, hD, hR⟩ := (H.node i x hi).own
  have cm : w.cell? ⟨L.q i, 4, none⟩ = some (.map (some (L.m i))) := (H.node i x hi).blk.cell 4 rfl
  have hlt := H.lt
  have HP : Hid (∀ wr left cn pf l D', GF w wr p L T i x part (Maps.size D) left cn pf l D' → wr.cell? ⟨p, 1, none⟩ = some (.pointer (some ⟨L.s, 0, none⟩)) ∧ wr.cell? ⟨L.q i, 4, none⟩ = some (.map (some (L.m i))) ∧ L.m i < w.heap.size ∧ L.gs < w.heap.size ∧ L.hs < w.heap.size) := hide (fun wr left cn pf l D' G =>
    ⟨G.tl.tab.cell 1 rfl, (G.tl.node i _ (set_same hi)).blk.cell 4 rfl, (hlt.each i x hi).2, hlt.gs, hlt.hs⟩)
  have HST : Hid (∀ w0, w0.ranges Tryz.prog 3 PE (L.m i) w.heap.size (Maps.size D) D (Maps.has D) (Maps.size D) → w.grownBy w0 none → GF w w0 p L T i x part (Maps.size D) (Maps.has D) (Maps.size D) (L.pf i) L.l D) := hide (fun w0 h0 hg => by
    have hg2 : GrownS w w0 (fun _ => False) := GrownS.of hg (fun k e => by cases e)
    refine ⟨?_, h0, hR, rfl, hg2.mono (fun k _ e => e.elim)⟩
    rw [H.xkeep_all hi (fun j hj => by
      rw [hR.has, show ((j : Int)).toNat = j by omega, ← H.has i x hi j, hj]
      simp), set_self hi, updF_self]
    exact H.grownS hg2 (hlt.mono (fun _ _ e => e)))
  have HNX : Hid (∀ wr left cn pf l D' (y : Int) w1 cn1, GF w wr p L T i x part (Maps.size D) left cn pf l D' → w1.ranges Tryz.prog 3 PE (L.m i) w.heap.size (Maps.size D) D' (fun z => left z && !z.sameKey (.int .i64 y)) cn1 → wr.grownBy w1 (some w.heap.size) → (y < (part : Int) ∧ 0 ≤ y) → GF w w1 p L T i x part (Maps.size D) (fun z => left z && !z.sameKey (.int .i64 y)) cn1 pf l D') := hide (fun wr left cn pf l D' y w1 cn1 G hrg hg hy => by
    have hg2 : GrownS wr w1 (fun k => k = w.heap.size) := GrownS.of hg (fun k e => by simpa using e)
    refine ⟨?_, hrg, G.rd, G.len, G.gr.after hg2 (fun k h1 h2 => absurd h2 (by omega))⟩
    have := G.tl.grownS hg2 ((hlt.step hi _ _ _).mono (fun k h1 h2 => by omega))
    have e : (fun j : Nat => decide (part ≤ j) == false || (left (.int .i64 (j : Int)) && !(Lit.int .i64 (j : Int)).sameKey (.int .i64 y))) = (fun j : Nat => decide (part ≤ j) == false || left (.int .i64 (j : Int))) := by
      funext j
      by_cases h1 : part ≤ j
      · rw [sameKey_ne (key_ne (show (j : Int) ≠ y by omega))]
        simp
      · simp [h1]
    rw [e]
    exact this)
  have HGV : Hid (∀ wr left cn pf l D' (y c : Int) w1 cn1 w2 w3 cn3, GF w wr p L T i x part (Maps.size D) left cn pf l D' → wr.grownBy w1 (some w.heap.size) → (∀ zd, D'.atKey (.int .i64 y) zd = .lit (.int .i64 c)) → (part : Int) ≤ y →
      BAt w2 L.s L.gs L.hs (giveL l c) → GrownS w1 w2 (fun k => k = L.gs ∨ k = L.hs) → w2.mapTurned w3 (L.m i) →
      w3.ranges Tryz.prog 3 PE (L.m i) w.heap.size (Maps.size D) (D'.del (.int .i64 y)) (fun z => left z && !z.sameKey (.int .i64 y)) cn3 → w1.ranges Tryz.prog 3 PE (L.m i) w.heap.size (Maps.size D) D' (fun z => left z && !z.sameKey (.int .i64 y)) cn1 → ∃ pf' l' D'', GF w w3 p L T i x part (Maps.size D) (fun z => left z && !z.sameKey (.int .i64 y)) cn3 pf' l' D'') := hide (fun wr left cn pf l D' y c w1 cn1 w2 w3 cn3 G hg hat hy hst hg12 hturn hrg3 hrg1 => by
    obtain ⟨k, b, rfl, hkb, rfl, hk64⟩ := G.rd.key hat
    have hg2 : GrownS wr w1 (fun k => k = w.heap.size) := GrownS.of hg (fun k e => by simpa using e)
    have t1 := G.tl.grownS hg2 ((hlt.step hi _ _ _).mono (fun k h1 h2 => by omega))
    have hn1 := t1.ne (set_same hi)
    have hpf : updF L.pf i pf i = pf := if_pos rfl
    obtain ⟨y, hy1, hy2⟩ := t1.part i _ (set_same hi) k b (by show updF L.pf i pf i k = _; rw [hpf]; exact hkb)
    have hgv : giveL l ((b : Int) + 1) = l.set b [] := by
      unfold giveL
      rw [tkn_of hy1, show ((b : Int) + 1 - 1).toNat = b by omega]
      cases y with
      | nil => exact absurd rfl hy2
      | cons _ _ => rfl
    rw [hgv] at hst
    have hg23 : GrownS w2 w3 (fun k => k = L.m i) := GrownS.of hturn.grown (fun k e => by simpa using e)
    have hg13 : GrownS w1 w3 (fun k => k = L.m i ∨ k = L.gs ∨ k = L.hs) := (hg12.mono (fun k _ e => .inr e)).trans (hg23.mono (fun k _ e => .inl e))
    have hst3 := hst.grownS hg23 hn1.2.2.2.1.symm hn1.2.2.2.2.1.symm hn1.2.2.2.2.2.symm
    have hnd : NAt w3 (L.q i) (L.m i) (xdel (xkeep x (fun j => decide (part ≤ j) == false || left (.int .i64 (j : Int)))) k) (pdel pf k) :=
      ⟨((t1.node i _ (set_same hi)).blk.grownS hg13 (fun e => by rcases e with e | e | e; exact t1.qm (set_same hi) (set_same hi) e; exact hn1.1.2.2.2.1 e; exact hn1.1.2.2.2.2 e)), _, ownsMap_tight hrg3.owns, G.rd.del hkb⟩
    have t3 := t1.gave (set_same hi) (kk := k) (b := b) (by show updF L.pf i pf i k = _; rw [hpf]; exact hkb) hg13 hst3 (by show NAt w3 (L.q i) (L.m i) _ (pdel (updF L.pf i pf i) k); rw [hpf]; exact hnd)
    refine ⟨pdel pf k, l.set b [], _, ?_, hrg3, G.rd.del hkb, by rw [List.length_set]; exact G.len, (G.gr.after hg2 (fun k h1 h2 => absurd h2 (by omega))).trans (hg13.mono (fun _ _ e => e))⟩
    have e : (fun j : Nat => decide (part ≤ j) == false || (left (.int .i64 (j : Int)) && !(Lit.int .i64 (j : Int)).sameKey (.int .i64 (k : Int)))) = (fun j : Nat => if j = k then false else (decide (part ≤ j) == false || left (.int .i64 (j : Int)))) := by
      funext j
      by_cases h1 : j = k
      · subst h1
        rw [if_pos rfl, show (Lit.int .i64 (j : Int)).sameKey (.int .i64 (j : Int)) = true by simp [Lit.sameKey]]
        simp
        omega
      · rw [if_neg h1, sameKey_ne (key_ne (show (j : Int) ≠ (k : Int) by omega))]
        simp
    rw [e, ← xkeep_del]
    rw [List.set_set] at t3
    have e2 : updF (updF L.pf i pf) i (pdel (updF L.pf i pf i) k) = updF L.pf i (pdel pf k) := by rw [updF_twice, hpf]
    rw [← e2]
    exact t3)
  have HEN : Hid (∀ wr left cn pf l D', GF w wr p L T i x part (Maps.size D) left cn pf l D' → (∀ kl, left kl = false) → ∃ pf l, TL wr p { L with pf := updF L.pf i pf, l := l } (T.set i (some (xkeep x (fun j => decide (j < part))))) ∧ l.length = L.l.length ∧ GrownS w wr (fun k => k = L.m i ∨ k = L.gs ∨ k = L.hs)) := hide (fun wr left cn pf l D' G hl => by
    refine ⟨pf, l, ?_, G.len, G.gr⟩
    have e : (fun j : Nat => decide (part ≤ j) == false || left (.int .i64 (j : Int))) = (fun j => decide (j < part)) := by
      funext j
      rw [hl]
      by_cases h1 : part ≤ j
      · simp [h1]
      · simp [h1]
        omega
    have := G.tl
    rw [e] at this
    exact this)
  have hown := hide hD
  obtain ⟨n, hn⟩ : ∃ n, n = Maps.size D := ⟨_, rfl⟩
  rw [← hn] at HP HST HNX HGV HEN hown
  have HGC : Hid (∀ wr w1 left cn pf l D' (c : Int), GF w wr p L T i x part n left cn pf l D' → wr.grownBy w1 (some w.heap.size) → -9223372036854775808 ≤ c ∧ c ≤ 9223372036854775807 → BAt w1 L.s L.gs L.hs l ∧ w1.cell? ⟨p, 1, none⟩ = some (.pointer (some ⟨L.s, 0, none⟩)) ∧ w1.cell? ⟨L.q i, 4, none⟩ = some (.map (some (L.m i))) ∧ Calls Tryz.prog 136 #[.pointer (some ⟨L.s, 0, none⟩), .int .i64 c] w1 fun e w2 => e = .returned (.int .i64 (giveE l c)) ∧ w2.cell? ⟨L.q i, 4, none⟩ = some (.map (some (L.m i))) ∧ Hid (BAt w2 L.s L.gs L.hs (giveL l c) ∧ GrownS w1 w2 (fun k => k = L.gs ∨ k = L.hs))) := hide (fun wr w1 left cn pf l D' c G hg hc => by
    have hg2 : GrownS wr w1 (fun k => k = w.heap.size) := GrownS.of hg (fun k e => by simpa using e)
    have t1 := G.tl.grownS hg2 ((hlt.step hi _ _ _).mono (fun k h1 h2 => by omega))
    have hn1 := t1.ne (set_same hi)
    have hbk := (t1.node i _ (set_same hi)).blk
    refine ⟨t1.store, t1.tab.cell 1 rfl, hbk.cell 4 rfl, (give_any w1 L.s L.gs L.hs l c t1.store hc).mono ?_⟩
    rintro e w2 ⟨h1, h2, h3⟩
    have h3' : GrownS w1 w2 (fun k => k = L.gs ∨ k = L.hs) := h3
    exact ⟨h1, (hbk.grownS h3' (fun e => by rcases e with e | e; exact hn1.1.2.2.2.1 e; exact hn1.1.2.2.2.2 e)).cell 4 rfl, hide ⟨h2, h3'⟩⟩)
  have HKP : Hid (∀ wr w1 w2 left left' cn cn1 pf l D', GF w wr p L T i x part n left cn pf l D' → w1.ranges Tryz.prog 3 PE (L.m i) w.heap.size n D' left' cn1 → GrownS w1 w2 (fun k => k = L.gs ∨ k = L.hs) → w2.ranges Tryz.prog 3 PE (L.m i) w.heap.size n D' left' cn1) := hide (fun wr w1 w2 left left' cn cn1 pf l D' G h1 h2 => by
    have hn1 := G.tl.ne (set_same hi)
    have a1 := hlt.gs
    have a2 := hlt.hs
    exact ranges_grownS h1 h2 (fun e => by rcases e with e | e; exact hn1.2.2.2.2.1 e; exact hn1.2.2.2.2.2 e) (fun e => by omega))
  obtain ⟨POST, hPOST⟩ : ∃ P : World → Prop, P = fun w' => ∃ pf l, TL w' p { L with pf := updF L.pf i pf, l := l } (T.set i (some (xkeep x (fun j => decide (j < part))))) ∧ l.length = L.l.length ∧ GrownS w w' (fun k => k = L.m i ∨ k = L.gs ∨ k = L.hs) := ⟨_, rfl⟩
  have HE2 : Hid (∀ wr left cn pf l D', GF w wr p L T i x part n left cn pf l D' → (∀ kl, left kl = false) → POST wr) := hide (by rw [hPOST]; exact unhide HEN)
  suffices hsuf : Calls Tryz.prog 106 #[.pointer (some ⟨p, 0, none⟩), .pointer (some ⟨L.q i, 0, none⟩), .int .i64 (part : Int)] w fun e w' => e = .returned (.tuple #[]) ∧ POST w' by
    rw [hPOST] at hsuf
    exact hsuf
  have HSZ := hide hn
  clear hPOST HEN hn hD hR hlt H HP
  obtain ⟨GX, hGX⟩ : ∃ GX : World → (Lit → Bool) → Nat → PF → BL → DataW Unit → Prop, GX = fun wr left cn pf l D' => GF w wr p L T i x part n left cn pf l D' := ⟨_, rfl⟩
  have hGF : ∀ wr left cn pf l D', GX wr left cn pf l D' → GF w wr p L T i x part n left cn pf l D' := fun wr left cn pf l D' h => by rw [hGX] at h; exact h
  have hGF2 : ∀ wr left cn pf l D', GF w wr p L T i x part n left cn pf l D' → GX wr left cn pf l D' := fun wr left cn pf l D' h => by rw [hGX]; exact h
  have HG1 := hide hGF
  have HG2 := hide hGF2
  clear hGX hGF hGF2
  obtain ⟨m, hm⟩ : ∃ m, m = L.m i := ⟨_, rfl⟩
  obtain ⟨q, hq⟩ : ∃ q, q = L.q i := ⟨_, rfl⟩
  obtain ⟨st, hst⟩ : ∃ st, st = L.s := ⟨_, rfl⟩
  rw [← hm, ← hq] at HGC cm
  rw [← hst] at HGC
  rw [← hq]
  rw [← hm] at HST HNX HKP hown HGV
  rw [← hst] at HGV
  have HM : Hid (m = L.m i) := hide hm
  clear hm hq hst
  go_enter Tryz.func106, Tryz.ntmps106
  go_wp2_with (first
    | (at_range; refine wpList_range_own _ rfl _ 153 rfl 3 3 lawI Tryz.underlying153 _ m n D rfl (unhide hown) ?_; intro w0 hrg0 hg0 hs0)
    | go_in)
  have HS0 := hide (unhide HG2 _ _ _ _ _ _ (unhide HST w0 (by rw [unhide HSZ] at hrg0 ⊢; exact hrg0) hg0))
  clear hrg0 hg0 hs0
  go_frame
  go_loopw [6] (fun _ wr => ∃ left cn pf l D', Hid (GX wr left cn pf l D')) (fun _ wr => wr.rangeLeft m w.heap.size)
  case atStart => exact ⟨_, _, _, _, _, HS0⟩
  case round =>
    obtain ⟨left, cn, pf, l, D', G⟩ := hrel
    have hrg := (unhide HG1 _ _ _ _ _ _ (unhide G)).rg
    rw [← unhide HM] at hrg
    go_wp2_with (first
      | (at_next; refine wpList_next_ranges_ii _ rfl _ rfl 3 3 .i64 .i64 lawI Tryz.underlying3 Tryz.underlying3 m w.heap.size n _ _ _ rfl hrg ?_ ?_)
      | go_in)
    · intro _ hl0
      have HF := hide (unhide HE2 _ _ _ _ _ _ (unhide HG1 _ _ _ _ _ _ (unhide G)) hl0)
      clear hl0 hrg
      go_wp2
      go_end0
      exact ⟨rfl, unhide HF⟩
    · intro y c w1 cn1 hwx hwc hlx hat hrg1 hlt1 hg1 hs1 hen
      have hyb := bounds_i64 hwx
      have hcb := bounds_i64 hwc
      obtain ⟨b1, b2, b3, b4⟩ := unhide HGC _ w1 _ _ _ _ _ c (unhide HG1 _ _ _ _ _ _ (unhide G)) hg1 hcb
      have HB4 := hide b4
      have HR1 := hide hrg1
      have HRG := hide hrg
      have HG := hide hg1
      have HAT := hide hat
      have HLT := hide hlt1
      have HWX := hide hwx
      clear b1 b4 hrg1 hg1 hs1 hat hlx hwc hwx hrg hlt1 hcb
      by_cases hge : (part : Int) ≤ y
      · go_wp2_with fail
        refine (unhide HB4).mono ?_
        rintro e w2 ⟨rfl, d3, HD2⟩
        have hrg2 := unhide HKP _ _ w2 _ _ _ _ _ _ _ (unhide HG1 _ _ _ _ _ _ (unhide G)) (unhide HR1) (unhide HD2).2
        clear b2 b3
        go_wp2_with (first
          | (at_delete; refine wpList_delete_ranges _ rfl _ _ 153 3 rfl 3 lawI Tryz.underlying153 _ m w.heap.size n _ _ _ rfl hrg2 _ _ rfl (keyI (unhide HWX)) ?_; intro w3 cn3 hrg3 hle hturn; go_frame)
          | go_in)
        rw [strike_twice] at hrg3
        obtain ⟨pf', l', D'', G3⟩ := unhide HGV _ _ _ _ _ _ y c w1 _ w2 w3 cn3 (unhide HG1 _ _ _ _ _ _ (unhide G)) (unhide HG) (unhide HAT) hge (unhide HD2).1 (unhide HD2).2 hturn hrg3 (unhide HR1)
        have HG3 := hide (unhide HG2 _ _ _ _ _ _ G3)
        go_roundw
        case rel => exact ⟨_, _, _, _, _, HG3⟩
        case measure => rw [hrg3.left_eq, (unhide HRG).left_eq]; have := unhide HLT; omega
      · have HG3 := hide (unhide HG2 _ _ _ _ _ _ (unhide HNX _ _ _ _ _ _ y w1 cn1 (unhide HG1 _ _ _ _ _ _ (unhide G)) (unhide HR1) (unhide HG) ⟨by omega, by
          obtain ⟨k, _, e, _⟩ := (unhide HG1 _ _ _ _ _ _ (unhide G)).rd.key (unhide HAT)
          omega⟩))
        go_wp2
        go_roundw
        case rel => exact ⟨_, _, _, _, _, HG3⟩
        case measure => rw [(unhide HR1).left_eq, (unhide HRG).left_eq]; exact unhide HLT

end Go.Proofs.YtemologkibcdoaaGreatDoor
