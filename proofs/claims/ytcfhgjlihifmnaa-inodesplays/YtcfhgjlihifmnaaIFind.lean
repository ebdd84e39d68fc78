/-
  find, place; Kind, Size, Links, Tie, Hold.
-/
import Derived.Test.YtcfhgjlihifmnaaIMem
namespace Go.Proofs.Ytcfhgjlihifmnaa
open Go.RowKit

set_option maxRecDepth 20000 in
theorem tfind_nil (i : Int) (w : World) : Calls Try.prog 33 #[.pointer none, .int .i64 i] w fun e w' => e = .returned (.tuple #[.pointer none, .int .i64 2]) ∧ w' = w := by
  go_enter Try.func33, Try.ntmps33
  go_wp2
  go_ret2
  exact ⟨rfl, rfl⟩
set_option maxRecDepth 20000 in
theorem place_any (a : Nat) (w : World) (ha : a ≤ 9223372036854775807) : Calls Try.prog 51 #[.int .i64 (a : Int)] w fun e w' => e = .returned (.tuple #[.int .i64 ((a / 64 : Nat) : Int), .int .i64 ((a % 64 : Nat) : Int)]) ∧ w' = w := by
  go_enter Try.func51, Try.ntmps51
  go_wp2
  go_ret2
  refine ⟨?_, rfl⟩
  simp

set_option maxRecDepth 20000 in
set_option maxHeartbeats 1000000 in
theorem tfind_none {w : World} {p : Nat} {L : Lay} {T : TB} (H : TL w p L T) {i : Int} (h : ndAt T i = none) (hb : -9223372036854775808 ≤ i ∧ i ≤ 9223372036854775807) :
    Calls Try.prog 33 #[.pointer (some ⟨p, 0, none⟩), .int .i64 i] w fun e w' => e = .returned (.tuple #[.pointer none, .int .i64 23]) ∧ w' = w := by
  have q0 := H.tab.cell 0 rfl
  have hmx := H.row.max
  have hq : (ndAt T i = none) := h
  obtain ⟨cs, k2, h3, h4, h5, h6⟩ := H.row.lies
  have hc := ndAt_none h
  obtain ⟨n, hn⟩ : ∃ n, n = T.length := ⟨_, rfl⟩
  rw [← hn] at q0 hmx hc h4
  clear h H hq
  rcases hc with h1 | h1 | ⟨k, rfl, hk, hkn⟩
  · clear hn h6 k2
    go_enter Try.func33, Try.ntmps33
    go_wp2
    go_ret2
    exact ⟨rfl, rfl⟩
  · clear hn h6 k2
    have h0 : ¬ i < 1 := by omega
    go_enter Try.func33, Try.ntmps33
    go_wp2
    go_ret2
    exact ⟨rfl, rfl⟩
  · have c2 := k2.cell k (h6 k none hk)
    change w.cell? _ = some (.pointer none) at c2
    clear hn h6 k2 hk
    have h0 : (k : Int) < (n : Int) := by omega
    go_enter Try.func33, Try.ntmps33
    go_wp2
    go_ret2
    exact ⟨rfl, rfl⟩
set_option maxRecDepth 20000 in
set_option maxHeartbeats 1000000 in
theorem tfind_some {w : World} {p : Nat} {L : Lay} {T : TB} (H : TL w p L T) {k : Nat} {x : Nd} (hk : T[k]? = some (some x)) :
    Calls Try.prog 33 #[.pointer (some ⟨p, 0, none⟩), .int .i64 ((k : Int) + 1)] w fun e w' => e = .returned (.tuple #[.pointer (some ⟨L.q k, 0, none⟩), .int .i64 0]) ∧ w' = w := by
  have q0 := H.tab.cell 0 rfl
  have hmx := H.row.max
  obtain ⟨cs, k2, h3, h4, h5, h6⟩ := H.row.lies
  have hkn := (List.getElem?_eq_some_iff.1 hk).1
  have c2 := k2.cell k (h6 k _ hk)
  change w.cell? _ = some (.pointer (some ⟨L.q k, 0, none⟩)) at c2
  obtain ⟨n, hn⟩ : ∃ n, n = T.length := ⟨_, rfl⟩
  rw [← hn] at q0 hmx hkn h4
  obtain ⟨q, hq⟩ : ∃ q, q = L.q k := ⟨_, rfl⟩
  rw [← hq] at c2 ⊢
  have h0 : (k : Int) < (n : Int) := by omega
  clear hn h6 k2 hk H hq
  go_enter Try.func33, Try.ntmps33
  go_wp2
  go_ret2
  exact ⟨rfl, rfl⟩

/-- A cell of a node's own turns. -/
theorem TL.cellTL {w : World} {p : Nat} {L : Lay} {T : TB} (H : TL w p L T) {k c : Nat} {x x' : Nd} (hk : T[k]? = some (some x)) {v : Value}
    (hb : Blk (w.setCell ⟨L.q k, c, none⟩ v) (L.q k) 80 #[.int .i64 (x'.names : Int), .int .i64 (x'.users : Int), .int .i64 (x'.kind : Int), .int .i64 (x'.size : Int), .map (some (L.m k))]) (hh : x'.has = x.has) (hy : x'.byt = x.byt) :
    TL (w.setCell ⟨L.q k, c, none⟩ v) p { L with pf := updF L.pf k (L.pf k), l := L.l } (T.set k (some x')) := by
  have hg : GrownS w (w.setCell ⟨L.q k, c, none⟩ v) (fun j => j = L.q k) := GrownS.of (grown_setCell w ⟨L.q k, c, none⟩ v) (fun j e => by simpa using e)
  have n1 := H.ne hk
  obtain ⟨D, d1, d2⟩ := (H.node k x hk).own
  exact H.step hk (x' := x') (pf' := L.pf k) (l' := L.l) hg (fun j _ e => .inl e) (H.store.grownS hg n1.1.2.2.1.symm n1.1.2.2.2.1.symm n1.1.2.2.2.2.symm) ⟨hb, D, ownsMap_grownS d1 hg (H.qm hk hk).symm, d2⟩ (fun j => by rw [hh]; exact H.has k x hk j) (H.part k x hk)
    (fun a a' b h1 h2 => (H.one k k x x hk hk a a' b h1 h2).2) (fun j y a b hj hy2 hp => ⟨fun a' h2 => hj (H.one j k y x hy2 hk a a' b hp h2).1, rfl⟩) (fun j => by rw [hy]; exact H.byte k x hk j) (by rw [hh]) rfl
theorem TL.cellTurn {w : World} {p nb : Nat} {L : Lay} {T : TB} {X : Nat → Prop} (H : TL w p L T) (hin : L.In T p X) (hnb : L.l.length = nb) {k c : Nat} {x x' : Nd} (hk : T[k]? = some (some x)) {v : Value}
    (hb : Blk (w.setCell ⟨L.q k, c, none⟩ v) (L.q k) 80 #[.int .i64 (x'.names : Int), .int .i64 (x'.users : Int), .int .i64 (x'.kind : Int), .int .i64 (x'.size : Int), .map (some (L.m k))]) (hh : x'.has = x.has) (hy : x'.byt = x.byt) :
    TAt (w.setCell ⟨L.q k, c, none⟩ v) p X (T.set k (some x')) nb ∧ GrownS w (w.setCell ⟨L.q k, c, none⟩ v) X := by
  have hg : GrownS w (w.setCell ⟨L.q k, c, none⟩ v) (fun j => j = L.q k) := GrownS.of (grown_setCell w ⟨L.q k, c, none⟩ v) (fun j e => by simpa using e)
  exact ⟨⟨_, H.cellTL hk hb hh hy, hin.step hk _ _ _, hnb⟩, hg.mono (fun j _ e => by rw [show j = L.q k from e]; exact (hin.each k x hk).1)⟩
set_option maxRecDepth 20000 in
theorem tkind_nil (i : Int) (w : World) : Calls Try.prog 21 #[.pointer none, .int .i64 i] w fun e w' => e = .returned (.int .i64 0) ∧ w' = w := by
  go_enter Try.func21, Try.ntmps21
  go_wp2_with fail
  refine (tfind_nil i w).mono ?_
  rintro e w1 ⟨rfl, hw1⟩
  rw [show w1 = w from hw1]
  clear hw1
  go_wp2
  go_ret
  exact ⟨rfl, rfl⟩
set_option maxRecDepth 20000 in
set_option maxHeartbeats 1000000 in
theorem tkind_any {w : World} {p : Nat} {L : Lay} {T : TB} (H : TL w p L T) (i : Int) (hb : -9223372036854775808 ≤ i ∧ i ≤ 9223372036854775807) : Calls Try.prog 21 #[.pointer (some ⟨p, 0, none⟩), .int .i64 i] w fun e w' => e = .returned (.int .i64 (kindOf (ndAt T i) : Int)) ∧ w' = w := by
  cases hx : ndAt T i with
  | none =>
    have HF := hide (tfind_none H hx hb)
    clear H hx
    go_enter Try.func21, Try.ntmps21
    go_wp2_with fail
    refine (unhide HF).mono ?_
    rintro e w1 ⟨rfl, hw1⟩
    rw [show w1 = w from hw1]
    clear hw1
    go_wp2
    go_ret
    exact ⟨rfl, rfl⟩
  | some x =>
    obtain ⟨k, rfl, hk, _⟩ := ndAt_some hx
    have HF := hide (tfind_some H hk)
    have c := (H.node k x hk).blk.cell 2 rfl
    change _ = some (Value.int .i64 (x.kind : Int)) at c
    obtain ⟨q, hq⟩ : ∃ q, q = L.q k := ⟨_, rfl⟩
    rw [← hq] at c HF
    clear H hx hk hq
    go_enter Try.func21, Try.ntmps21
    go_wp2_with fail
    refine (unhide HF).mono ?_
    rintro e w1 ⟨rfl, hw1⟩
    rw [show w1 = w from hw1]
    clear hw1
    go_wp2
    go_ret
    exact ⟨rfl, rfl⟩
set_option maxRecDepth 20000 in
theorem tsize_nil (i : Int) (w : World) : Calls Try.prog 22 #[.pointer none, .int .i64 i] w fun e w' => e = .returned (.int .i64 0) ∧ w' = w := by
  go_enter Try.func22, Try.ntmps22
  go_wp2_with fail
  refine (tfind_nil i w).mono ?_
  rintro e w1 ⟨rfl, hw1⟩
  rw [show w1 = w from hw1]
  clear hw1
  go_wp2
  go_ret
  exact ⟨rfl, rfl⟩
set_option maxRecDepth 20000 in
set_option maxHeartbeats 1000000 in
theorem tsize_any {w : World} {p : Nat} {L : Lay} {T : TB} (H : TL w p L T) (i : Int) (hb : -9223372036854775808 ≤ i ∧ i ≤ 9223372036854775807) : Calls Try.prog 22 #[.pointer (some ⟨p, 0, none⟩), .int .i64 i] w fun e w' => e = .returned (.int .i64 (sizeOfN (ndAt T i) : Int)) ∧ w' = w := by
  cases hx : ndAt T i with
  | none =>
    have HF := hide (tfind_none H hx hb)
    clear H hx
    go_enter Try.func22, Try.ntmps22
    go_wp2_with fail
    refine (unhide HF).mono ?_
    rintro e w1 ⟨rfl, hw1⟩
    rw [show w1 = w from hw1]
    clear hw1
    go_wp2
    go_ret
    exact ⟨rfl, rfl⟩
  | some x =>
    obtain ⟨k, rfl, hk, _⟩ := ndAt_some hx
    have HF := hide (tfind_some H hk)
    have c := (H.node k x hk).blk.cell 3 rfl
    change _ = some (Value.int .i64 (x.size : Int)) at c
    obtain ⟨q, hq⟩ : ∃ q, q = L.q k := ⟨_, rfl⟩
    rw [← hq] at c HF
    clear H hx hk hq
    go_enter Try.func22, Try.ntmps22
    go_wp2_with fail
    refine (unhide HF).mono ?_
    rintro e w1 ⟨rfl, hw1⟩
    rw [show w1 = w from hw1]
    clear hw1
    go_wp2
    go_ret
    exact ⟨rfl, rfl⟩
set_option maxRecDepth 20000 in
theorem tlinks_nil (i : Int) (w : World) : Calls Try.prog 23 #[.pointer none, .int .i64 i] w fun e w' => e = .returned (.int .i64 0) ∧ w' = w := by
  go_enter Try.func23, Try.ntmps23
  go_wp2_with fail
  refine (tfind_nil i w).mono ?_
  rintro e w1 ⟨rfl, hw1⟩
  rw [show w1 = w from hw1]
  clear hw1
  go_wp2
  go_ret
  exact ⟨rfl, rfl⟩
set_option maxRecDepth 20000 in
set_option maxHeartbeats 1000000 in
theorem tlinks_any {w : World} {p : Nat} {L : Lay} {T : TB} (H : TL w p L T) (i : Int) (hb : -9223372036854775808 ≤ i ∧ i ≤ 9223372036854775807) : Calls Try.prog 23 #[.pointer (some ⟨p, 0, none⟩), .int .i64 i] w fun e w' => e = .returned (.int .i64 (namesOf (ndAt T i) : Int)) ∧ w' = w := by
  cases hx : ndAt T i with
  | none =>
    have HF := hide (tfind_none H hx hb)
    clear H hx
    go_enter Try.func23, Try.ntmps23
    go_wp2_with fail
    refine (unhide HF).mono ?_
    rintro e w1 ⟨rfl, hw1⟩
    rw [show w1 = w from hw1]
    clear hw1
    go_wp2
    go_ret
    exact ⟨rfl, rfl⟩
  | some x =>
    obtain ⟨k, rfl, hk, _⟩ := ndAt_some hx
    have HF := hide (tfind_some H hk)
    have c := (H.node k x hk).blk.cell 0 rfl
    change _ = some (Value.int .i64 (x.names : Int)) at c
    obtain ⟨q, hq⟩ : ∃ q, q = L.q k := ⟨_, rfl⟩
    rw [← hq] at c HF
    clear H hx hk hq
    go_enter Try.func23, Try.ntmps23
    go_wp2_with fail
    refine (unhide HF).mono ?_
    rintro e w1 ⟨rfl, hw1⟩
    rw [show w1 = w from hw1]
    clear hw1
    go_wp2
    go_ret
    exact ⟨rfl, rfl⟩
set_option maxRecDepth 20000 in
theorem ttie_nil (i : Int) (w : World) : Calls Try.prog 15 #[.pointer none, .int .i64 i] w fun e w' => e = .returned (.int .i64 2) ∧ w' = w := by
  go_enter Try.func15, Try.ntmps15
  go_wp2_with fail
  refine (tfind_nil i w).mono ?_
  rintro e w1 ⟨rfl, hw1⟩
  rw [show w1 = w from hw1]
  clear hw1
  go_wp2
  go_ret
  exact ⟨rfl, rfl⟩
set_option maxRecDepth 20000 in
set_option maxHeartbeats 1000000 in
theorem ttie_any {w : World} {p nb : Nat} {X : Nat → Prop} {T : TB} (H : TAt w p X T nb) (i : Int) (hb : -9223372036854775808 ≤ i ∧ i ≤ 9223372036854775807) (hm : ∀ (k : Nat) (x : Nd), T[k]? = some (some x) → x.names ≤ 1000000) : Calls Try.prog 15 #[.pointer (some ⟨p, 0, none⟩), .int .i64 i] w fun e w' => e = .returned (.int .i64 (tieE T i)) ∧ TAt w' p X (tieT T i) nb ∧ GrownS w w' X := by
  obtain ⟨L, HL, hin, hnb⟩ := H
  unfold tieE tieT
  cases hx : ndAt T i with
  | none =>
    have HF := hide (tfind_none HL hx hb)
    have HE : Hid (TAt w p X T nb ∧ GrownS w w X) := hide ⟨⟨L, HL, hin, hnb⟩, grownS_of_below (Below.refl _ _)⟩
    clear HL hx hin
    go_enter Try.func15, Try.ntmps15
    go_wp2_with fail
    refine (unhide HF).mono ?_
    rintro e w1 ⟨rfl, hw1⟩
    rw [show w1 = w from hw1]
    clear hw1
    go_wp2
    go_ret
    exact ⟨rfl, unhide HE⟩
  | some x =>
    obtain ⟨k, rfl, hk, _⟩ := ndAt_some hx
    rw [plc_of]
    have HF := hide (tfind_some HL hk)
    have hn := HL.node k x hk
    have c := hn.blk.cell 0 rfl
    have f := hn.blk.frozen 0
    have hm1 := hm k x hk
    change _ = some (Value.int .i64 (x.names : Int)) at c
    have HE : Hid (TAt (w.setCell ⟨L.q k, 0, none⟩ (.int .i64 ((x.names : Int) + 1))) p X (T.set k (some (tieN x))) nb ∧ GrownS w (w.setCell ⟨L.q k, 0, none⟩ (.int .i64 ((x.names : Int) + 1))) X) := hide (by
      exact HL.cellTurn hin hnb hk (c := 0) (x' := tieN x) (hn.blk.set 0 _) rfl rfl)
    obtain ⟨q, hq⟩ : ∃ q, q = L.q k := ⟨_, rfl⟩
    rw [← hq] at c f HF HE
    obtain ⟨n, hn2⟩ : ∃ n, n = x.names := ⟨_, rfl⟩
    rw [← hn2] at c hm1 HE
    clear HL hx hk hq hin hn hm hn2
    go_enter Try.func15, Try.ntmps15
    go_wp2_with fail
    refine (unhide HF).mono ?_
    rintro e w1 ⟨rfl, hw1⟩
    rw [show w1 = w from hw1]
    clear hw1
    go_wp2
    go_ret
    exact ⟨rfl, unhide HE⟩
set_option maxRecDepth 20000 in
theorem thold_nil (i : Int) (w : World) : Calls Try.prog 26 #[.pointer none, .int .i64 i] w fun e w' => e = .returned (.int .i64 2) ∧ w' = w := by
  go_enter Try.func26, Try.ntmps26
  go_wp2_with fail
  refine (tfind_nil i w).mono ?_
  rintro e w1 ⟨rfl, hw1⟩
  rw [show w1 = w from hw1]
  clear hw1
  go_wp2
  go_ret
  exact ⟨rfl, rfl⟩
set_option maxRecDepth 20000 in
set_option maxHeartbeats 1000000 in
theorem thold_any {w : World} {p nb : Nat} {X : Nat → Prop} {T : TB} (H : TAt w p X T nb) (i : Int) (hb : -9223372036854775808 ≤ i ∧ i ≤ 9223372036854775807) (hm : ∀ (k : Nat) (x : Nd), T[k]? = some (some x) → x.users ≤ 1000000) : Calls Try.prog 26 #[.pointer (some ⟨p, 0, none⟩), .int .i64 i] w fun e w' => e = .returned (.int .i64 (tieE T i)) ∧ TAt w' p X (holdT T i) nb ∧ GrownS w w' X := by
  obtain ⟨L, HL, hin, hnb⟩ := H
  unfold tieE holdT
  cases hx : ndAt T i with
  | none =>
    have HF := hide (tfind_none HL hx hb)
    have HE : Hid (TAt w p X T nb ∧ GrownS w w X) := hide ⟨⟨L, HL, hin, hnb⟩, grownS_of_below (Below.refl _ _)⟩
    clear HL hx hin
    go_enter Try.func26, Try.ntmps26
    go_wp2_with fail
    refine (unhide HF).mono ?_
    rintro e w1 ⟨rfl, hw1⟩
    rw [show w1 = w from hw1]
    clear hw1
    go_wp2
    go_ret
    exact ⟨rfl, unhide HE⟩
  | some x =>
    obtain ⟨k, rfl, hk, _⟩ := ndAt_some hx
    rw [plc_of]
    have HF := hide (tfind_some HL hk)
    have hn := HL.node k x hk
    have c := hn.blk.cell 1 rfl
    have f := hn.blk.frozen 1
    have hm1 := hm k x hk
    change _ = some (Value.int .i64 (x.users : Int)) at c
    have HE : Hid (TAt (w.setCell ⟨L.q k, 1, none⟩ (.int .i64 ((x.users : Int) + 1))) p X (T.set k (some (holdN x))) nb ∧ GrownS w (w.setCell ⟨L.q k, 1, none⟩ (.int .i64 ((x.users : Int) + 1))) X) := hide (by
      exact HL.cellTurn hin hnb hk (c := 1) (x' := holdN x) (hn.blk.set 1 _) rfl rfl)
    obtain ⟨q, hq⟩ : ∃ q, q = L.q k := ⟨_, rfl⟩
    rw [← hq] at c f HF HE
    obtain ⟨n, hn2⟩ : ∃ n, n = x.users := ⟨_, rfl⟩
    rw [← hn2] at c hm1 HE
    clear HL hx hk hq hin hn hm hn2
    go_enter Try.func26, Try.ntmps26
    go_wp2_with fail
    refine (unhide HF).mono ?_
    rintro e w1 ⟨rfl, hw1⟩
    rw [show w1 = w from hw1]
    clear hw1
    go_wp2
    go_ret
    exact ⟨rfl, unhide HE⟩

end Go.Proofs.Ytcfhgjlihifmnaa
