/-
  Which blocks a step may turn; rows that a call owns.
  The list of parts of package word, in memory: a row of parts, and the bytes of the last one.
  The list of parts of package word: goesOn, settle, add.
  What a part more turns in the list of package word.
-/
import Derived.Test.YtnamfjbfcbamjaaGreatDoorP03
import Derived.Test.YtnamfjbfcbamjaaGreatDoorP07
import Derived.Deep.AppendLies
import Derived.Deep.RegionHeld3
import Derived.RegionTactic
import Derived.BigRegion
import Derived.Test.YtnamfjbfcbamjaaGreatDoorP06
namespace Go.Proofs.YtnamfjbfcbamjaaGreatDoor
open Go.RowKit
structure GrownS (w w1 : World) (S : Nat → Prop) : Prop where
  os : w1.os = w.os
  tape : w1.tape = w.tape
  output : w1.output = w.output
  size : w.heap.size ≤ w1.heap.size
  block : ∀ k, k < w.heap.size → ¬ S k → w1.heap[k]? = w.heap[k]?
theorem GrownS.of {w w1 : World} {row : Option Nat} {S : Nat → Prop} (h : w.grownBy w1 row) (hs : ∀ k, some k = row → S k) : GrownS w w1 S :=
  ⟨h.os, h.tape, h.output, h.size, fun k hk hn => h.block k hk (fun e => hn (hs k e))⟩
theorem GrownS.trans {w w1 w2 : World} {S : Nat → Prop} (h : GrownS w w1 S) (h2 : GrownS w1 w2 S) : GrownS w w2 S :=
  ⟨h2.os.trans h.os, h2.tape.trans h.tape, h2.output.trans h.output, Nat.le_trans h.size h2.size, fun k hk hn => (h2.block k (Nat.lt_of_lt_of_le hk h.size) hn).trans (h.block k hk hn)⟩
theorem GrownS.mono {w w1 : World} {S T : Nat → Prop} (h : GrownS w w1 S) (hs : ∀ k, k < w.heap.size → S k → T k) : GrownS w w1 T :=
  ⟨h.os, h.tape, h.output, h.size, fun k hk hn => h.block k hk (fun e => hn (hs k hk e))⟩
theorem GrownS.below {w w1 : World} {S : Nat → Prop} {n : Nat} (h : GrownS w w1 S) (hn : n ≤ w.heap.size) (hs : ∀ k, S k → n ≤ k) : Below n w w1 :=
  ⟨h.os, h.tape, h.output, h.size, fun k hk => h.block k (by omega) (fun e => by have := hs k e; omega)⟩
theorem Blk.grownS {w w1 : World} {S : Nat → Prop} {b : Nat} {t : TypeId} {cs : Array Value} (h : Blk w b t cs) (hg : GrownS w w1 S) (hb : ¬ S b) : Blk w1 b t cs := (hg.block b h.lt hb).trans h
theorem own_type {w : World} {base n k sz : Nat} {e t : TypeId} {v : Value} {xs : List Value} {cs : Array Value} (h : w.ownsRow base e sz v n xs) (hb : Blk w k t cs) (hne : t ≠ e) : some k ≠ v.ownBlock := by
  rcases h.2 with ⟨rfl, _⟩ | ⟨g, cap, cur, rfl, _, hg, _⟩
  · simp [Value.ownBlock]
  · intro hk
    have hk : k = g := by simpa [Value.ownBlock] using hk
    subst hk
    rw [show w.heap[k]? = _ from hb] at hg
    injection hg with hg
    injection hg with _ h2 _
    exact hne h2
theorem own_grownS {w w1 : World} {base n sz : Nat} {e : TypeId} {v : Value} {xs : List Value} {S : Nat → Prop} (h : w.ownsRow base e sz v n xs) (hg : GrownS w w1 S) (hv : ∀ k, v.ownBlock = some k → ¬ S k) : w1.ownsRow base e sz v n xs := by
  obtain ⟨h0, h1 | ⟨g, cap, cur, rfl, h2, h3, h4⟩⟩ := h
  · exact ⟨h0, .inl h1⟩
  · exact ⟨h0, .inr ⟨g, cap, cur, rfl, h2, (hg.block g (Array.getElem?_eq_some_iff.1 h3).1 (hv g rfl)).trans h3, h4⟩⟩
theorem grownS_of_below {w w1 : World} {S : Nat → Prop} (h : Below w.heap.size w w1) : GrownS w w1 S := ⟨h.os, h.tape, h.output, h.size, fun k hk _ => h.block k hk⟩
theorem below_drew (w : World) (k : Nat) : Below w.heap.size w (w.drewN k) := below_of_grown (grown_drewN w k)
theorem cell_alloc {w : World} {a : Addr} {v : Value} (h : w.cell? a = some v) (o : Obj) : (w.alloc o).cell? a = some v := (World.grownBy_alloc w o none).cell h (by simp)
theorem own_drew {w : World} {B n sz : Nat} {e : TypeId} {v : Value} {xs : List Value} (h : w.ownsRow B e sz v n xs) : w.drew.ownsRow B e sz v n xs :=
  own_grownS (w1 := w.drewN 1) h (grownS_of_below (S := fun _ => False) (below_drew w 1)) (fun _ _ e => e)
end Go.Proofs.YtnamfjbfcbamjaaGreatDoor
namespace Go.Proofs.YtnamfjbfcbamjaaGreatDoor
open Go.RowKit
def pcs (x : Prt × Value) : List Value := [.int .i64 x.1.kind, .string (BA x.1.text), .bool x.1.quote, .int .i64 x.1.op, .bool x.1.colon, x.2]
def flatP (L : List (Prt × Value)) : List Value := L.flatMap pcs
theorem flatP_snoc (L : List (Prt × Value)) (x : Prt × Value) : flatP (L ++ [x]) = flatP L ++ pcs x := by simp [flatP]
theorem flatP_len : ∀ L : List (Prt × Value), (flatP L).length = L.length * 6
  | [] => rfl
  | x :: r => by
    have := flatP_len r
    show (pcs x ++ flatP r).length = _
    rw [List.length_append, this]
    simp [pcs]
    omega
theorem flatP_get : ∀ (L : List (Prt × Value)) (i j : Nat) (x : Prt × Value), L[i]? = some x → j < 6 → (flatP L)[i * 6 + j]? = (pcs x)[j]?
  | y :: r, 0, j, x, h, hj => by
    simp at h
    subst h
    show (pcs y ++ flatP r)[0 * 6 + j]? = _
    rw [List.getElem?_append_left (by simp [pcs]; omega)]
    simp
  | y :: r, i + 1, j, x, h, hj => by
    show (pcs y ++ flatP r)[(i + 1) * 6 + j]? = _
    rw [List.getElem?_append_right (by simp [pcs]; omega), show (i + 1) * 6 + j - (pcs y).length = i * 6 + j by simp [pcs]; omega]
    exact flatP_get r i j x (by simpa using h) hj
def InW (b : Nat) (X : Nat → Prop) (w : World) (k : Nat) : Prop := b < k ∧ k < w.heap.size ∧ ¬ X k
structure LSg (w : World) (b : Nat) (X : Nat → Prop) (L : List (Prt × Value)) (bs : List UInt8) (pv bv : Value) : Prop where
  blk : Blk w b 72 #[pv, bv]
  row : w.ownsRow (b + 1) 37 6 pv L.length (flatP L)
  own : OwnB w (b + 1) bv bs
  sub : ∀ x ∈ L, WAt w (InW b X w) x.2 x.1.sub
  xb : X b
  xp : ∀ k, pv.ownBlock = some k → X k
  xv : ∀ k, bv.ownBlock = some k → X k
  lo : ∀ k, X k → b ≤ k
  hi : ∀ k, X k → k < w.heap.size
theorem LSg.below {w w1 : World} {b : Nat} {X : Nat → Prop} {L : List (Prt × Value)} {bs : List UInt8} {pv bv : Value} (h : LSg w b X L bs pv bv) (hb : Below w.heap.size w w1) : LSg w1 b X L bs pv bv := by
  have hg : GrownS w w1 (fun _ => False) := grownS_of_below hb
  exact ⟨h.blk.grownS hg (fun e => e), own_grownS h.row hg (fun _ _ e => e), own_grownS h.own hg (fun _ _ e => e), fun x hx => (h.sub x hx).kept (fun k hk => hb.block k hk.2.1) (fun k hk => ⟨hk.1, Nat.lt_of_lt_of_le hk.2.1 hb.size, hk.2.2⟩), h.xb, h.xp, h.xv, h.lo, fun k hk => Nat.lt_of_lt_of_le (h.hi k hk) hb.size⟩
theorem LSg.pshape {w : World} {b : Nat} {X : Nat → Prop} {L : List (Prt × Value)} {bs : List UInt8} {pv bv : Value} (h : LSg w b X L bs pv bv) :
    ∃ ad cap, pv = .slice ad L.length cap ∧ ∀ (i : Nat) (x : Prt × Value), L[i]? = some x → ∃ g, ad = some ⟨g, 0, none⟩ ∧ g < w.heap.size ∧ X g ∧ b < g ∧ (∀ j, w.frozen? ⟨g, j, none⟩ = false) ∧ ∀ j u, (pcs x)[j]? = some u → j < 6 → w.cell? ⟨g, i * 6 + j, none⟩ = some u := by
  obtain ⟨h1, ⟨hv, h0⟩ | ⟨g, cap, cur, hv, hb, hg, _, _, _, htk⟩⟩ := h.row
  · refine ⟨none, 0, by rw [hv, h0], fun i x hi => ?_⟩
    have := (List.getElem?_eq_some_iff.1 hi).1
    omega
  · refine ⟨_, cap, hv, fun i x hi => ⟨g, rfl, (Array.getElem?_eq_some_iff.1 hg).1, h.xp g (by rw [hv]; rfl), by omega, fun j => Blk.frozen (show Blk w g 37 cur from hg) j, fun j u hu hj => ?_⟩⟩
    have hil := (List.getElem?_eq_some_iff.1 hi).1
    have hp := flatP_get L i j x hi hj
    rw [hu, ← htk, List.getElem?_take, if_pos (by omega)] at hp
    exact Blk.cell (show Blk w g 37 cur from hg) (i * 6 + j) (by simpa using hp)
theorem LSg.bshape {w : World} {b : Nat} {X : Nat → Prop} {L : List (Prt × Value)} {bs : List UInt8} {pv bv : Value} (h : LSg w b X L bs pv bv) : ∃ ad n cap, bv = .slice ad n cap := by
  obtain ⟨_, ⟨hv, _⟩ | ⟨g, cap, cur, hv, _⟩⟩ := h.own
  · exact ⟨_, _, _, hv⟩
  · exact ⟨_, _, _, hv⟩
theorem LSg.ne_pb {w : World} {b : Nat} {X : Nat → Prop} {L : List (Prt × Value)} {bs : List UInt8} {pv bv : Value} (h : LSg w b X L bs pv bv) {k : Nat} (hp : pv.ownBlock = some k) : bv.ownBlock ≠ some k := by
  obtain ⟨_, ⟨hv, _⟩ | ⟨g, cap, cur, hv, _, hg, _⟩⟩ := h.row
  · rw [hv] at hp; cases hp
  · rw [hv] at hp
    have : g = k := by simpa [Value.ownBlock] using hp
    subst this
    exact fun e => own_type h.own (show Blk w g 37 cur from hg) (by decide) e.symm
theorem own_set {w : World} {base e sz n cap g : Nat} {xs : List Value} (h : w.ownsRow base e sz (.slice (some ⟨g, 0, none⟩) n cap) n xs) (j : Nat) (x : Value) : (w.setCell ⟨g, j, none⟩ x).ownsRow base e sz (.slice (some ⟨g, 0, none⟩) n cap) n (xs.set j x) := by
  obtain ⟨h1, ⟨hv, h0⟩ | ⟨g', cap', cur, hv, hb, hg, h2, h3, h4, htk⟩⟩ := h
  · cases hv
  · cases hv
    refine ⟨by rw [List.length_set]; exact h1, .inr ⟨g, cap, cur.setIfInBounds j x, rfl, hb, Blk.set (show Blk w g e cur from hg) j x, h2, h3, by simpa using h4, ?_⟩⟩
    rw [Array.toList_setIfInBounds, ← htk, List.take_set]
theorem LSg.setB {w w1 : World} {b : Nat} {X : Nat → Prop} {L : List (Prt × Value)} {bs bs1 : List UInt8} {pv bv bv1 : Value} (h : LSg w b X L bs pv bv) (hg : GrownS w w1 (fun k => some k = bv.ownBlock)) (ho : OwnB w1 (b + 1) bv1 bs1) (hx' : ∀ k, bv1.ownBlock = some k → bv.ownBlock = some k ∨ w.heap.size ≤ k) :
    LSg (w1.setCell ⟨b, 1, none⟩ bv1) b (fun k => X k ∨ bv1.ownBlock = some k) L bs1 pv bv1 ∧ GrownS w (w1.setCell ⟨b, 1, none⟩ bv1) X := by
  have hbv : some b ≠ bv.ownBlock := own_type h.own h.blk (by decide)
  have h1 := h.blk.grownS hg hbv
  have gs : GrownS w1 (w1.setCell ⟨b, 1, none⟩ bv1) (fun k => k = b) := GrownS.of (grown_setCell w1 ⟨b, 1, none⟩ _) (fun k e => by simpa using e)
  have hb1 : some b ≠ bv1.ownBlock := own_type ho h1 (by decide)
  have gx : GrownS w (w1.setCell ⟨b, 1, none⟩ bv1) X := (hg.mono (fun k _ e => h.xv k e.symm)).trans (gs.mono (fun k _ e => by rw [e]; exact h.xb))
  refine ⟨⟨?_, ?_, ?_, ?_, .inl h.xb, fun k hk => .inl (h.xp k hk), fun k hk => .inr hk, ?_, ?_⟩, gx⟩
  · have := h1.set 1 bv1
    simpa using this
  · refine own_grownS (own_grownS h.row hg (fun k hk e => h.ne_pb hk e.symm)) gs (fun k hk e => ?_)
    subst e
    exact own_type h.row h.blk (by decide) hk.symm
  · exact own_grownS ho gs (fun k hk e => hb1 (by rw [← e]; exact hk.symm))
  · intro x hx
    refine (h.sub x hx).kept (fun k hk => gx.block k hk.2.1 hk.2.2) (fun k hk => ⟨hk.1, Nat.lt_of_lt_of_le hk.2.1 gx.size, fun e => ?_⟩)
    rcases e with e | e
    · exact hk.2.2 e
    · rcases hx' k e with e | e
      · exact hk.2.2 (h.xv k e)
      · have := hk.2.1; omega
  · intro k hk
    rcases hk with hk | hk
    · exact h.lo k hk
    · have := (World.ownsRow.lt ho k hk).1; omega
  · intro k hk
    rcases hk with hk | hk
    · exact Nat.lt_of_lt_of_le (h.hi k hk) gx.size
    · have := (World.ownsRow.lt ho k hk).2; simpa using this
theorem LSg.push {w wf : World} {b g cap : Nat} {X A : Nat → Prop} {L : List (Prt × Value)} {bs : List UInt8} {pv bv : Value} {x : Prt × Value} (h : LSg w b X L bs pv bv) (hb : Blk wf b 72 #[.slice (some ⟨g, 0, none⟩) (L.length + 1) cap, bv]) (hg : GrownS w wf (fun k => k = b ∨ some k = pv.ownBlock ∨ k = g)) (hat : pv.ownBlock = some g ∨ w.heap.size ≤ g)
    (ho : wf.ownsRow (b + 1) 37 6 (.slice (some ⟨g, 0, none⟩) (L.length + 1) cap) (L.length + 1) (flatP L ++ pcs x)) (hx : WAt w A x.2 x.1.sub) (hA : ∀ k, A k → InW b X w k) :
    LSg wf b (fun k => X k ∨ k = g) (L ++ [x]) bs (.slice (some ⟨g, 0, none⟩) (L.length + 1) cap) bv ∧ GrownS w wf X := by
  have hbl := h.blk.lt
  have hpv : some b ≠ pv.ownBlock := own_type h.row h.blk (by decide)
  have gx : GrownS w wf X := hg.mono (fun k hk e => by
    rcases e with e | e | e
    · rw [e]; exact h.xb
    · exact h.xp k e.symm
    · rcases hat with e' | e'
      · rw [e]; exact h.xp g e'
      · omega)
  have hin : ∀ k, InW b X w k → InW b (fun k => X k ∨ k = g) wf k := fun k hk => ⟨hk.1, Nat.lt_of_lt_of_le hk.2.1 gx.size, fun e => by
    rcases e with e | e
    · exact hk.2.2 e
    · rcases hat with e' | e'
      · exact hk.2.2 (by rw [e]; exact h.xp g e')
      · have := hk.2.1; omega⟩
  refine ⟨⟨hb, ?_, ?_, ?_, .inl h.xb, fun k hk => ?_, fun k hk => .inl (h.xv k hk), ?_, ?_⟩, gx⟩
  · rw [flatP_snoc, List.length_append]
    exact ho
  · refine own_grownS h.own hg (fun k hk e => ?_)
    rcases e with e | e | e
    · subst e
      exact own_type h.own h.blk (by decide) hk.symm
    · exact h.ne_pb e.symm hk
    · subst e
      rcases hat with e' | e'
      · exact h.ne_pb e' hk
      · have := (World.ownsRow.lt h.own k hk).2; omega
  · intro y hy
    rcases List.mem_append.1 hy with hy | hy
    · exact (h.sub y hy).kept (fun k hk => gx.block k hk.2.1 hk.2.2) hin
    · simp at hy
      subst hy
      exact hx.kept (fun k hk => gx.block k (hA k hk).2.1 (hA k hk).2.2) (fun k hk => hin k (hA k hk))
  · have : g = k := by simpa [Value.ownBlock] using hk
    exact .inr this.symm
  · intro k hk
    rcases hk with hk | hk
    · exact h.lo k hk
    · subst hk
      rcases hat with e | e
      · exact h.lo k (h.xp k e)
      · omega
  · intro k hk
    rcases hk with hk | hk
    · exact Nat.lt_of_lt_of_le (h.hi k hk) gx.size
    · have := (World.ownsRow.lt ho g rfl).2
      subst hk
      exact this
def T6 (w : World) (g o : Nat) (x0 x1 x2 x3 x4 x5 : Value) : World :=
  (((((w.setCell ⟨g, o, none⟩ x0).setCell ⟨g, o + 1, none⟩ x1).setCell ⟨g, o + 2, none⟩ x2).setCell ⟨g, o + 3, none⟩ x3).setCell ⟨g, o + 4, none⟩ x4).setCell ⟨g, o + 5, none⟩ x5
theorem T6_grown (w : World) (g o : Nat) (x0 x1 x2 x3 x4 x5 : Value) : GrownS w (T6 w g o x0 x1 x2 x3 x4 x5) (fun k => k = g) := by
  have h : ∀ (w : World) j v, GrownS w (w.setCell ⟨g, j, none⟩ v) (fun k => k = g) := fun w j v => GrownS.of (grown_setCell w ⟨g, j, none⟩ v) (fun k e => by simpa using e)
  exact (((((h _ _ _).trans (h _ _ _)).trans (h _ _ _)).trans (h _ _ _)).trans (h _ _ _)).trans (h _ _ _)
theorem T6_own {w : World} {base e n cap g o : Nat} {xs : List Value} {z0 z1 z2 z3 z4 z5 : Value} (h : w.ownsRow base e 6 (.slice (some ⟨g, 0, none⟩) n cap) n (xs ++ [z0, z1, z2, z3, z4, z5])) (ho : xs.length = o) (x0 x1 x2 x3 x4 x5 : Value) :
    (T6 w g o x0 x1 x2 x3 x4 x5).ownsRow base e 6 (.slice (some ⟨g, 0, none⟩) n cap) n (xs ++ [x0, x1, x2, x3, x4, x5]) := by
  have := own_set (own_set (own_set (own_set (own_set (own_set h o x0) (o + 1) x1) (o + 2) x2) (o + 3) x3) (o + 4) x4) (o + 5) x5
  have e : ∀ (ys : List Value) (j : Nat) (v : Value), (xs ++ ys).set (o + j) v = xs ++ ys.set j v := fun ys j v => by
    rw [List.set_append_right _ _ (by omega), ho, Nat.add_sub_cancel_left]
  have e0 : ∀ (ys : List Value) (v : Value), (xs ++ ys).set o v = xs ++ ys.set 0 v := fun ys v => e ys 0 v
  simp only [e0, e, List.set_cons_zero, List.set_cons_succ] at this
  exact this
theorem own_cell {w : World} {base e n cap g sz : Nat} {xs : List Value} (h : w.ownsRow base e sz (.slice (some ⟨g, 0, none⟩) n cap) n xs) {j : Nat} {u : Value} (hu : xs[j]? = some u) : w.cell? ⟨g, j, none⟩ = some u ∧ w.frozen? ⟨g, j, none⟩ = false := by
  obtain ⟨h1, ⟨hv, h0⟩ | ⟨g', cap', cur, hv, hb, hg, h2, h3, h4, htk⟩⟩ := h
  · cases hv
  · cases hv
    refine ⟨Blk.cell (show Blk w g e cur from hg) j ?_, Blk.frozen (show Blk w g e cur from hg) j⟩
    rw [← htk, List.getElem?_take] at hu
    split at hu
    · simpa using hu
    · cases hu
def Box (w : World) (q : Nat) (p : Prt) (v : Value) : Prop := Blk w q 37 #[.int .i64 p.kind, .string (BA p.text), .bool p.quote, .int .i64 p.op, .bool p.colon, v]
theorem Box.six {w : World} {q : Nat} {p : Prt} {v : Value} (h : Box w q p v) : w.cell? ⟨q, 0, none⟩ = some (.int .i64 p.kind) ∧ w.cell? ⟨q, 1, none⟩ = some (.string (BA p.text)) ∧ w.cell? ⟨q, 2, none⟩ = some (.bool p.quote) ∧ w.cell? ⟨q, 3, none⟩ = some (.int .i64 p.op) ∧ w.cell? ⟨q, 4, none⟩ = some (.bool p.colon) ∧ w.cell? ⟨q, 5, none⟩ = some v :=
  ⟨Blk.cell h 0 rfl, Blk.cell h 1 rfl, Blk.cell h 2 rfl, Blk.cell h 3 rfl, Blk.cell h 4 rfl, Blk.cell h 5 rfl⟩
theorem append_str_at {P : Program} (w : World) (base : Nat) (t u ty e : TypeId) (i : TypeInfo) (ht : P.underlying t = some (.slice e)) (hu : P.underlying u = some .string) (hi : P.info? e = some i) (hz : i.zero = some (.int .u8 0))
    (hsize : i.size = 1) (hby : i.bytes = 1) (v : Value) (n : Nat) (xs : List Value) (hown : w.ownsRow base e 1 v n xs) (s : ByteArray) (h63 : n + s.size ≤ maxLen) (hbytes : n + s.size ≤ 140737488355328) {v' : Value} {w' : World}
    (hr : (Builtin.append_ #[t, u] ty #[v, .string s]).run P w = .ok v' w') : ∀ k, v'.ownBlock = some k → v.ownBlock = some k ∨ w.heap.size ≤ k := by
  have hsmall : n + s.size ≤ 9223372036854775807 := by simp only [maxLen] at h63; omega
  have hxl : xs.length = n := by simpa using hown.1
  rcases hown.2 with ⟨rfl, rfl⟩ | ⟨g, cap, cur, rfl, hbg, hg, hnc, hcm, hcs, htake⟩
  · by_cases hm : s.size = 0
    · have hf := Lib.run_firstCells_string (P := P) w 1 s
      rw [hm] at hf
      simp [Builtin.append_, run_underlying ht, run_underlying hu, sizeOf, typeInfo, hi, hsize, Builtin.lenOf, hm, hf] at hr
      rw [← hr.1]
      intro k hk
      cases hk
    · have hr2 := run_append_nil_string (P := P) w t u ty e i (.int .u8 0) ht hu hi hz s (by omega) (by omega) (by rw [hby]; omega)
      rw [hr2] at hr
      cases hr
      intro k hk
      exact .inr (by simp [Value.ownBlock] at hk; omega)
  · by_cases hroom : n + s.size ≤ cap
    · have hcs' : cur.size = cap := by simpa using hcs
      have hr2 := Lib.run_append_room_string (P := P) w t u ty e i ht hu hi hsize g n cap cur hg s hroom (by omega)
      rw [hr2] at hr
      cases hr
      intro k hk
      exact .inl hk
    · have holds : ∀ j u, xs[j]? = some u → w.cell? ((⟨g, 0, none⟩ : Addr).add j) = some u := World.ownsRow.cells (g := g) ⟨hown.1, .inr ⟨g, cap, cur, rfl, hbg, hg, hnc, hcm, hcs, htake⟩⟩ rfl
      have hr2 := Lib.run_append_grow_string (P := P) w t u ty e i (.int .u8 0) ht hu hi hz ⟨g, 0, none⟩ n cap xs (by rw [hsize]; simpa using hxl) holds s (by omega) (by omega) (by rw [hby]; exact growslice_fits (by omega) (by omega))
      rw [hr2] at hr
      cases hr
      intro k hk
      exact .inr (by simp [Value.ownBlock] at hk; omega)
theorem step_append_str {P : Program} {w : World} {ops : Array Oper} {o : Oper} {a : Act} {K : Act → World → Prop} {Q : Exit → Act → World → Prop} {E : Prop} (hgd : o.guard = none) (sl x : Operand) (t u : TypeId)
    (ho : o.op = .call { callee := .builtin .append, args := #[sl, x], argTypes := #[t, u] })
    (base : Nat) (e : TypeId) (i : TypeInfo) (ht : P.underlying t = some (.slice e)) (hu : P.underlying u = some .string) (hi : P.info? e = some i) (hz : i.zero = some (.int .u8 0))
    (hsize : i.size = 1) (hby : i.bytes = 1)
    (v : Value) (n : Nat) (xs : List Value) (hs : a.eval sl = v) (hown : w.ownsRow base e 1 v n xs) (s : ByteArray) (hx : a.eval x = .string s)
    (h63 : n + s.size ≤ maxLen) (hbytes : n + s.size ≤ 140737488355328) (hbase : base ≤ w.heap.size)
    (h : ∀ v' w', w'.ownsRow base e 1 v' (n + s.size) (xs ++ Lib.strCells s) → w.grownBy w' v.ownBlock → (∀ k, v'.ownBlock = some k → v.ownBlock = some k ∨ w.heap.size ≤ k) → K (a.put o.dst v') w') :
    if Region.wanted o (yielded ops a.tmps) = true then Oper.wp P o a w K Q else E := by
  have hw : Region.wanted o (yielded ops a.tmps) = true := by simp [Region.wanted, hgd]
  rw [if_pos hw]
  obtain ⟨v', w', hr, h2, h3, h4⟩ := Lib.run_append_own_string (P := P) w base t u o.type e i ht hu hi hz hsize hby v n xs hown s h63 hbytes hbase
  have h5 := append_str_at (P := P) w base t u o.type e i ht hu hi hz hsize hby v n xs hown s h63 hbytes hr
  unfold Oper.wp execOp
  simp only [ho, resolve, invoke, builtin, Sem.run_bind, Sem.run_pure, Result.andThen_ok, List.map_toArray, List.map_cons, List.map_nil, hs, hx, hr]
  exact h v' w' h2 h3 h5
theorem six_cells {w : World} {t : TypeId} {a0 a1 a2 a3 a4 a5 : Value} : ∀ j u, [a0, a1, a2, a3, a4, a5][j]? = some u → ((w.alloc (.cells #[a0, a1, a2, a3, a4, a5] t)).drew).cell? ((⟨w.heap.size, 0, none⟩ : Addr).add j) = some u := by
  intro j u hj
  rw [add_at]
  have hb : Blk (w.alloc (.cells #[a0, a1, a2, a3, a4, a5] t)) w.heap.size t #[a0, a1, a2, a3, a4, a5] := Blk.new w t _
  exact Blk.cell (hb.kept (w' := (w.alloc (.cells #[a0, a1, a2, a3, a4, a5] t)).drewN 1) (grown_drewN _ 1) (by simp)) j (by simpa using hj)
theorem zero_is : ∀ u ∈ [Value.int .i64 0, .string ⟨#[]⟩, .bool false, .int .i64 0, .bool false, .slice none 0 0], u.oneCell' = true := by
  intro u hu
  simp at hu
  rcases hu with rfl | rfl | rfl | rfl | rfl | rfl <;> rfl
theorem und_word : Tryz.prog.underlying 24 = some (.slice 37) := by kernel_rfl
theorem info_part : (Tryz.prog.info? 37).map (fun i => (i.zero, i.size, i.bytes)) = some (some (.agg #[.int .i64 0, .string ⟨#[]⟩, .bool false, .int .i64 0, .bool false, .slice none 0 0]), 6, 72) := by kernel_rfl
end Go.Proofs.YtnamfjbfcbamjaaGreatDoor
namespace Go.Proofs.YtnamfjbfcbamjaaGreatDoor
open Go.RowKit
def goesB (L : List (Prt × Value)) (p : Prt) : Bool := match L.getLast? with
  | none => false
  | some x => p.kind == 1 && (x.1.kind == 1 && x.1.quote == p.quote)
theorem last_ex {L : List (Prt × Value)} (h : L ≠ []) : ∃ M x, L = M ++ [x] := ⟨L.dropLast, L.getLast h, (List.dropLast_concat_getLast h).symm⟩
set_option maxRecDepth 20000 in
set_option maxHeartbeats 4000000 in
theorem goesOn_any (w : World) (b : Nat) (X A : Nat → Prop) (L : List (Prt × Value)) (bs : List UInt8) (pv bv x : Value) (p : Prt) (h : LSg w b X L bs pv bv) (hx : PV w A x p) (hl : L.length ≤ 100000) :
    Calls Tryz.prog 62 #[.pointer (some ⟨b, 0, none⟩), x] w fun e w' => e = .returned (.bool (goesB L p)) ∧ Below w.heap.size w w' := by
  obtain ⟨v, rfl, hs⟩ := hx
  obtain ⟨ad, cap, rfl, hsh⟩ := h.pshape
  have c0 : w.cell? ⟨b, 0, none⟩ = some (.slice ad L.length cap) := h.blk.cell 0 rfl
  have hbl := h.blk.lt
  by_cases hL : L = []
  · subst hL
    clear hsh h hs
    go_enter Tryz.func62, Tryz.ntmps62
    go_wp2
    go_ret
    exact ⟨rfl, (Below.refl _ w).alloc (Nat.le_refl _) _⟩
  obtain ⟨M, y, rfl⟩ := last_ex hL
  obtain ⟨g, rfl, hg, _, _, _, hc⟩ := hsh M.length y (by simp)
  have hln : (M ++ [y]).length = M.length + 1 := by simp
  rw [hln] at c0 hl
  have hgo : goesB (M ++ [y]) p = (p.kind == 1 && (y.1.kind == 1 && y.1.quote == p.quote)) := by unfold goesB; simp
  rw [hgo]
  have y0 : w.cell? ⟨g, M.length * 6, none⟩ = some (.int .i64 y.1.kind) := hc 0 _ rfl (by decide)
  have y1 : w.cell? ⟨g, M.length * 6 + 1, none⟩ = some (.string (BA y.1.text)) := hc 1 _ rfl (by decide)
  have y2 : w.cell? ⟨g, M.length * 6 + 2, none⟩ = some (.bool y.1.quote) := hc 2 _ rfl (by decide)
  have y3 : w.cell? ⟨g, M.length * 6 + 3, none⟩ = some (.int .i64 y.1.op) := hc 3 _ rfl (by decide)
  have y4 : w.cell? ⟨g, M.length * 6 + 4, none⟩ = some (.bool y.1.colon) := hc 4 _ rfl (by decide)
  have y5 : w.cell? ⟨g, M.length * 6 + 5, none⟩ = some y.2 := hc 5 _ rfl (by decide)
  obtain ⟨yv, yn, yc, hy⟩ : ∃ a n c, y.2 = .slice a n c := by
    obtain ⟨a, c, e, _⟩ := (h.sub y (by simp)).len
    exact ⟨_, _, _, e⟩
  rw [hy] at y5
  generalize M.length = n at *
  have hn0 : ((n : Int) + 1 == 0) = false := by rw [beq_eq_false_iff_ne]; omega
  clear hsh h hs hc hgo hL hy hln
  rcases Bool.eq_false_or_eq_true (p.kind == 1) with hk | hk
  · have hk2 : (p.kind != 1) = false := by simpa using hk
    go_enter Tryz.func62, Tryz.ntmps62
    go_wp2
    go_region
    go_wp2
    all_goals
      go_ret
      refine ⟨ret_bool (by simp [*]), ?_⟩
      first
      | exact (((Below.refl _ w).alloc (Nat.le_refl _) _).alloc (by simp) _).drew
      | exact (((Below.refl _ w).alloc (Nat.le_refl _) _).drew).alloc (by simp) _
  · have hk2 : (p.kind != 1) = true := by simpa using hk
    go_enter Tryz.func62, Tryz.ntmps62
    go_wp2
    go_ret
    rw [hk]
    exact ⟨rfl, (Below.refl _ w).alloc (Nat.le_refl _) _⟩
theorem grownX {w : World} {a : Addr} {X : Nat → Prop} (h : X a.block) (v : Value) : GrownS w (w.setCell a v) X := GrownS.of (grown_setCell w a v) (fun k e => by
  have : k = a.block := by simpa using e
  rw [this]
  exact h)
def setT (x : Prt × Value) (bs : List UInt8) : Prt × Value := (.mk x.1.kind bs x.1.quote x.1.op x.1.colon x.1.sub, x.2)
theorem LSg.text {w : World} {b g cap : Nat} {X : Nat → Prop} {M : List (Prt × Value)} {y : Prt × Value} {bs t : List UInt8} {bv : Value} (h : LSg w b X (M ++ [y]) bs (.slice (some ⟨g, 0, none⟩) (M.length + 1) cap) bv) :
    LSg (w.setCell ⟨g, M.length * 6 + 1, none⟩ (.string (BA t))) b X (M ++ [setT y t]) bs (.slice (some ⟨g, 0, none⟩) (M.length + 1) cap) bv := by
  have hXg : X g := h.xp g rfl
  have gs : GrownS w (w.setCell ⟨g, M.length * 6 + 1, none⟩ (.string (BA t))) (fun k => k = g) := GrownS.of (grown_setCell w ⟨g, M.length * 6 + 1, none⟩ _) (fun k e => by simpa using e)
  have hrow := h.row
  rw [show (M ++ [y]).length = M.length + 1 by simp] at hrow
  have hbg : b ≠ g := by
    have := (World.ownsRow.lt hrow g rfl).1
    omega
  refine ⟨h.blk.grownS gs hbg, ?_, own_grownS h.own gs (fun k hk e => h.ne_pb (k := g) rfl (by rw [← e]; exact hk)), ?_, h.xb, h.xp, h.xv, h.lo, fun k hk => by have := h.hi k hk; simpa using this⟩
  · have := own_set hrow (M.length * 6 + 1) (.string (BA t))
    rw [show (M ++ [setT y t]).length = M.length + 1 by simp]
    rw [flatP_snoc] at this ⊢
    rw [List.set_append_right _ _ (by rw [flatP_len]; omega), flatP_len, show M.length * 6 + 1 - M.length * 6 = 1 by omega] at this
    exact this
  · intro x hx
    have hk : ∀ v s, WAt w (InW b X w) v s → WAt (w.setCell ⟨g, M.length * 6 + 1, none⟩ (.string (BA t))) (InW b X (w.setCell ⟨g, M.length * 6 + 1, none⟩ (.string (BA t)))) v s := fun v s hv =>
      hv.kept (fun k hk => gs.block k hk.2.1 (fun e => hk.2.2 (by rw [e]; exact hXg))) (fun k hk => ⟨hk.1, by simpa using hk.2.1, hk.2.2⟩)
    rcases List.mem_append.1 hx with hx | hx
    · exact hk _ _ (h.sub x (List.mem_append_left _ hx))
    · simp at hx
      subst hx
      exact hk _ _ (h.sub y (by simp))
theorem LSg.clr {w : World} {b : Nat} {X : Nat → Prop} {L : List (Prt × Value)} {bs : List UInt8} {pv bv : Value} (h : LSg w b X L bs pv bv) : LSg (w.setCell ⟨b, 1, none⟩ (.slice none 0 0)) b X L [] pv (.slice none 0 0) := by
  have gs : GrownS w (w.setCell ⟨b, 1, none⟩ (.slice none 0 0)) (fun k => k = b) := GrownS.of (grown_setCell w ⟨b, 1, none⟩ _) (fun k e => by simpa using e)
  refine ⟨?_, own_grownS h.row gs (fun k hk e => own_type h.row h.blk (by decide) (by rw [← e]; exact hk.symm)), ownB_nil _ _, ?_, h.xb, h.xp, by simp [Value.ownBlock], h.lo, fun k hk => by have := h.hi k hk; simpa using this⟩
  · have := h.blk.set 1 (.slice none 0 0)
    simpa using this
  · intro x hx
    exact (h.sub x hx).kept (fun k hk => gs.block k hk.2.1 (fun e => hk.2.2 (by rw [e]; exact h.xb))) (fun k hk => ⟨hk.1, by simpa using hk.2.1, hk.2.2⟩)
def litB (L : List (Prt × Value)) : Bool := match L.getLast? with
  | none => false
  | some x => x.1.kind == 1
def setL (L : List (Prt × Value)) (bs : List UInt8) : List (Prt × Value) := match L.getLast? with
  | none => L
  | some x => if x.1.kind == 1 then L.dropLast ++ [setT x bs] else L
set_option maxRecDepth 20000 in
set_option maxHeartbeats 4000000 in
theorem settle_any (w : World) (b : Nat) (X : Nat → Prop) (L : List (Prt × Value)) (bs : List UInt8) (pv bv : Value) (h : LSg w b X L bs pv bv) (hl : L.length ≤ 100000) :
    Calls Tryz.prog 42 #[.pointer (some ⟨b, 0, none⟩)] w fun e w' => e = .returned (.tuple #[]) ∧ LSg w' b X (setL L bs) [] pv (.slice none 0 0) ∧ GrownS w w' X := by
  obtain ⟨ad, cap, rfl, hsh⟩ := h.pshape
  have c0 : w.cell? ⟨b, 0, none⟩ = some (.slice ad L.length cap) := h.blk.cell 0 rfl
  have c1 : w.cell? ⟨b, 1, none⟩ = some bv := h.blk.cell 1 rfl
  have z1 : w.frozen? ⟨b, 1, none⟩ = false := h.blk.frozen 1
  have hbl := h.blk.lt
  obtain ⟨ba, bn, bc, hbv⟩ := h.bshape
  by_cases hL : L = []
  · subst hL
    have HF : Hid (LSg (w.setCell ⟨b, 1, none⟩ (.slice none 0 0)) b X (setL [] bs) [] (.slice ad 0 cap) (.slice none 0 0) ∧ GrownS w (w.setCell ⟨b, 1, none⟩ (.slice none 0 0)) X) := hide ⟨h.clr, grownX (a := ⟨b, 1, none⟩) h.xb _⟩
    subst hbv
    clear hsh h
    go_enter Tryz.func42, Tryz.ntmps42
    go_wp2
    refine bodyPost_end (res0 rfl _ _) rfl ?_
    exact ⟨rfl, unhide HF⟩
  obtain ⟨M, y, rfl⟩ := last_ex hL
  obtain ⟨g, rfl, hg, _, hbg, hfz, hc⟩ := hsh M.length y (by simp)
  have hln : (M ++ [y]).length = M.length + 1 := by simp
  rw [hln] at c0 hl h ⊢
  have y0 : w.cell? ⟨g, M.length * 6, none⟩ = some (.int .i64 y.1.kind) := hc 0 _ rfl (by decide)
  have y1 : w.cell? ⟨g, M.length * 6 + 1, none⟩ = some (.string (BA y.1.text)) := hc 1 _ rfl (by decide)
  have zy := hfz (M.length * 6 + 1)
  rcases Bool.eq_false_or_eq_true (y.1.kind == 1) with hk | hk
  · have hset : setL (M ++ [y]) bs = M ++ [setT y bs] := by unfold setL; simp [hk]
    have hT := h.text (t := bs)
    have HF : Hid (LSg ((w.setCell ⟨g, M.length * 6 + 1, none⟩ (.string (BA bs))).setCell ⟨b, 1, none⟩ (.slice none 0 0)) b X (setL (M ++ [y]) bs) [] (.slice (some ⟨g, 0, none⟩) (M.length + 1) cap) (.slice none 0 0) ∧ GrownS w ((w.setCell ⟨g, M.length * 6 + 1, none⟩ (.string (BA bs))).setCell ⟨b, 1, none⟩ (.slice none 0 0)) X) := hide ⟨by rw [hset]; exact hT.clr,
      (grownX (a := ⟨g, M.length * 6 + 1, none⟩) (h.xp g rfl) _).trans (grownX (a := ⟨b, 1, none⟩) h.xb _)⟩
    have hcv : (convert 49 9 bv).run Tryz.prog w.drew = .ok (.string (BA bs)) w.drew := OwnB.text (own_drew h.own)
    subst hbv
    generalize M.length = n at *
    have hk2 : y.1.kind = 1 := by simpa using hk
    have hn1 : IntKind.i64.wrap ((n : Int) + 1 - 1) = (n : Int) := by rw [IntKind.wrap_i64]; omega
    clear hsh h hc hset hT hfz hln hL
    go_enter Tryz.func42, Tryz.ntmps42
    go_wp2
    go_region
    go_wp2
    refine bodyPost_end (res0 rfl _ _) rfl ?_
    exact ⟨rfl, (unhide HF).1.below (below_drew _ 1), (unhide HF).2.trans (grownS_of_below (below_drew _ 1))⟩
  · have hset : setL (M ++ [y]) bs = M ++ [y] := by unfold setL; simp [hk]
    have HF : Hid (LSg (w.setCell ⟨b, 1, none⟩ (.slice none 0 0)) b X (setL (M ++ [y]) bs) [] (.slice (some ⟨g, 0, none⟩) (M.length + 1) cap) (.slice none 0 0) ∧ GrownS w (w.setCell ⟨b, 1, none⟩ (.slice none 0 0)) X) := hide ⟨by rw [hset]; exact h.clr, grownX (a := ⟨b, 1, none⟩) h.xb _⟩
    subst hbv
    generalize M.length = n at *
    clear hsh h hc hset hfz hln hL
    go_enter Tryz.func42, Tryz.ntmps42
    go_wp2
    refine bodyPost_end (res0 rfl _ _) rfl ?_
    exact ⟨rfl, unhide HF⟩
end Go.Proofs.YtnamfjbfcbamjaaGreatDoor
namespace Go.Proofs.YtnamfjbfcbamjaaGreatDoor
open Go.RowKit
def LSt (w : World) (b : Nat) (X : Nat → Prop) (ps : List Prt) : Prop :=
  ∃ L bs pv bv, LSg w b X L bs pv bv ∧ (setL L bs).map Prod.fst = ps ∧ (litB L = false → bs = [])
theorem LSt.below {w w1 : World} {b : Nat} {X : Nat → Prop} {ps : List Prt} (h : LSt w b X ps) (hb : Below w.heap.size w w1) : LSt w1 b X ps := by
  obtain ⟨L, bs, pv, bv, h1, h2⟩ := h
  exact ⟨L, bs, pv, bv, h1.below hb, h2⟩
theorem slice_own {w : World} {base e n sz : Nat} {v : Value} {xs : List Value} (h : w.ownsRow base e sz v n xs) : ∃ a m c, v = .slice a m c := by
  obtain ⟨_, ⟨hv, _⟩ | ⟨g, cap, cur, hv, _⟩⟩ := h
  · exact ⟨_, _, _, hv⟩
  · exact ⟨_, _, _, hv⟩
theorem setb_grown (w : World) (b j : Nat) (v : Value) : GrownS w (w.setCell ⟨b, j, none⟩ v) (fun k => k = b) := GrownS.of (grown_setCell w ⟨b, j, none⟩ v) (fun k e => by simpa using e)
theorem zero_at {L : List (Prt × Value)} {n : Nat} {z0 z1 z2 z3 z4 z5 : Value} (hn : L.length = n) (j : Nat) : (flatP L ++ [z0, z1, z2, z3, z4, z5])[n * 6 + j]? = [z0, z1, z2, z3, z4, z5][j]? := by
  rw [List.getElem?_append_right (by rw [flatP_len]; omega), flatP_len, hn, Nat.add_sub_cancel_left]
theorem setL_len (L : List (Prt × Value)) (bs : List UInt8) : (setL L bs).length = L.length := by
  unfold setL
  split
  · rfl
  · next x hx =>
    split
    · rw [List.length_append, List.length_dropLast]
      have : L ≠ [] := by intro e; rw [e] at hx; cases hx
      have := List.length_pos_iff.2 this
      simp
      omega
    · rfl
theorem blk_drew {w : World} {b : Nat} {t : TypeId} {cs : Array Value} (h : Blk w b t cs) : Blk w.drew b t cs := h
theorem blk_set0 {w : World} {b : Nat} {t : TypeId} {x y : Value} (h : Blk w b t #[x, y]) (v : Value) : Blk (w.setCell ⟨b, 0, none⟩ v) b t #[v, y] := by
  have := h.set 0 v
  simpa using this
theorem ownb {g n c k : Nat} (h : Value.ownBlock (.slice (some ⟨g, 0, none⟩) n c) = some k) : g = k := by simpa [Value.ownBlock] using h
structure Mid (w2 w3 : World) (b g q : Nat) (X : Nat → Prop) (pv bv : Value) (p : Prt) (v : Value) : Prop where
  bg : b ≠ g
  qg : q ≠ g
  qb : q ≠ b
  blk : Blk w3 b 72 #[pv, bv]
  box : Box w3 q p v
  grown : GrownS w2 w3 (fun k => some k = pv.ownBlock)
  at_ : pv.ownBlock = some g ∨ w2.heap.size ≤ g
theorem add_mid {w2 w3 : World} {b g cap cg n q : Nat} {ad : Option Addr} {X : Nat → Prop} {L2 : List (Prt × Value)} {bv : Value} {p : Prt} {v : Value} {zs : List Value} {o : Obj} (h2 : LSg w2 b X L2 [] (.slice ad n cap) bv) 
    (hown : w3.ownsRow (b + 1) 37 6 (.slice (some ⟨g, 0, none⟩) (n + 1) cg) (n + 1) (flatP L2 ++ zs)) (hgrow : ((w2.alloc o).drew).grownBy w3 (Value.ownBlock (.slice ad n cap))) (hat : Value.ownBlock (.slice ad n cap) = some g ∨ g = w2.heap.size + 1) (hbox : Box w2 q p v) (hq : ¬ X q) :
    Mid w2 w3 b g q X (.slice ad n cap) bv p v := by
  have hgs : GrownS w2 w3 (fun k => some k = Value.ownBlock (.slice ad n cap)) := (GrownS.of (World.grownBy_alloc w2 o none) (by simp)).trans ((grownS_of_below (below_drew _ 1)).trans (GrownS.of hgrow (fun _ e => e)))
  have hat' : Value.ownBlock (.slice ad n cap) = some g ∨ w2.heap.size ≤ g := hat.imp (fun e => e) (fun e => by omega)
  have hpv : some b ≠ Value.ownBlock (.slice ad n cap) := own_type h2.row h2.blk (by decide)
  have hql : q < w2.heap.size := Blk.lt hbox
  refine ⟨?_, ?_, ?_, h2.blk.grownS hgs hpv, Blk.grownS hbox hgs (fun e => hq (h2.xp q e.symm)), hgs, hat'⟩
  · have := (World.ownsRow.lt hown g rfl).1
    omega
  · rcases hat' with e | e
    · intro h; exact hq (by rw [h]; exact h2.xp g e)
    · omega
  · intro h; exact hq (by rw [h]; exact h2.xb)
theorem add_finA {w2 w3 : World} {b g cap cg n q : Nat} {ad : Option Addr} {X A : Nat → Prop} {L2 : List (Prt × Value)} {bv : Value} {p : Prt} {v z0 z1 z2 z3 z4 z5 : Value} (hM : Mid w2 w3 b g q X (.slice ad n cap) bv p v) (h2 : LSg w2 b X L2 [] (.slice ad n cap) bv) (hn : L2.length = n)
    (hown : w3.ownsRow (b + 1) 37 6 (.slice (some ⟨g, 0, none⟩) (n + 1) cg) (n + 1) (flatP L2 ++ [z0, z1, z2, z3, z4, z5])) (hs : WAt w2 A v p.sub) (hA : ∀ k, A k → InW b X w2 k) :
    LSg ((T6 w3 g (n * 6) (.int .i64 p.kind) (.string (BA p.text)) (.bool p.quote) (.int .i64 p.op) (.bool p.colon) v).setCell ⟨b, 0, none⟩ (.slice (some ⟨g, 0, none⟩) (n + 1) cg)) b (fun k => X k ∨ k = g) (L2 ++ [(p, v)]) [] (.slice (some ⟨g, 0, none⟩) (n + 1) cg) bv ∧ Box ((T6 w3 g (n * 6) (.int .i64 p.kind) (.string (BA p.text)) (.bool p.quote) (.int .i64 p.op) (.bool p.colon) v).setCell ⟨b, 0, none⟩ (.slice (some ⟨g, 0, none⟩) (n + 1) cg)) q p v := by
  subst hn
  refine ⟨(h2.push (x := (p, v)) ?_ ?_ hM.at_ ?_ hs hA).1, Blk.grownS (Blk.grownS hM.box (T6_grown ..) hM.qg) (setb_grown _ _ _ _) hM.qb⟩
  · exact blk_set0 (hM.blk.grownS (T6_grown ..) hM.bg) _
  · exact ((hM.grown.mono (fun k _ e => .inr (.inl e))).trans ((T6_grown ..).mono (fun k _ e => .inr (.inr e)))).trans ((setb_grown _ _ _ _).mono (fun k _ e => .inl e))
  · exact own_grownS (T6_own hown (flatP_len L2) ..) (setb_grown _ _ _ _) (fun k hk e => hM.bg ((ownb hk).trans e).symm)
theorem add_finB {w2 w3 : World} {b g cap cg n q : Nat} {ad : Option Addr} {X A : Nat → Prop} {L2 : List (Prt × Value)} {bv : Value} {p : Prt} {v z0 z1 z2 z3 z4 z5 : Value} (hM : Mid w2 w3 b g q X (.slice ad n cap) bv p v) (h2 : LSg w2 b X L2 [] (.slice ad n cap) bv) (hn : L2.length = n)
    (hown : w3.ownsRow (b + 1) 37 6 (.slice (some ⟨g, 0, none⟩) (n + 1) cg) (n + 1) (flatP L2 ++ [z0, z1, z2, z3, z4, z5])) (hs : WAt w2 A v p.sub) (hA : ∀ k, A k → InW b X w2 k) :
    LSg (T6 (w3.setCell ⟨b, 0, none⟩ (.slice (some ⟨g, 0, none⟩) (n + 1) cg)) g (n * 6) (.int .i64 p.kind) (.string (BA p.text)) (.bool p.quote) (.int .i64 p.op) (.bool p.colon) v) b (fun k => X k ∨ k = g) (L2 ++ [(p, v)]) [] (.slice (some ⟨g, 0, none⟩) (n + 1) cg) bv ∧ Box (T6 (w3.setCell ⟨b, 0, none⟩ (.slice (some ⟨g, 0, none⟩) (n + 1) cg)) g (n * 6) (.int .i64 p.kind) (.string (BA p.text)) (.bool p.quote) (.int .i64 p.op) (.bool p.colon) v) q p v := by
  subst hn
  refine ⟨(h2.push (x := (p, v)) ?_ ?_ hM.at_ ?_ hs hA).1, Blk.grownS (Blk.grownS hM.box (setb_grown _ _ _ _) hM.qb) (T6_grown ..) hM.qg⟩
  · exact Blk.grownS (blk_set0 hM.blk _) (T6_grown ..) hM.bg
  · exact ((hM.grown.mono (fun k _ e => .inr (.inl e))).trans ((setb_grown _ _ _ _).mono (fun k _ e => .inl e))).trans ((T6_grown ..).mono (fun k _ e => .inr (.inr e)))
  · exact T6_own (own_grownS hown (setb_grown _ _ _ _) (fun k hk e => hM.bg ((ownb hk).trans e).symm)) (flatP_len L2) ..
theorem mid_x {w w2 w3 : World} {b g q : Nat} {X : Nat → Prop} {L2 : List (Prt × Value)} {pv bv : Value} {p : Prt} {v : Value} (hM : Mid w2 w3 b g q X pv bv p v) (h2 : LSg w2 b X L2 [] pv bv) (hg : GrownS w w2 X) : (GrownS w w3 X) ∧ ∀ k, X k ∨ k = g → X k ∨ w.heap.size ≤ k := by
  refine ⟨hg.trans (hM.grown.mono (fun k _ e => h2.xp k e.symm)), fun k hk => ?_⟩
  rcases hk with hk | hk
  · exact .inl hk
  · subst hk
    rcases hM.at_ with e | e
    · exact .inl (h2.xp _ e)
    · exact .inr (Nat.le_trans hg.size e)
theorem add_grownA {w w2 w3 : World} {b g q n cg : Nat} {X : Nat → Prop} {L2 : List (Prt × Value)} {pv bv x0 x1 x2 x3 x4 x5 : Value} {p : Prt} {v : Value} (hM : Mid w2 w3 b g q X pv bv p v) (h2 : LSg w2 b X L2 [] pv bv) (hg : GrownS w w2 X) :
    GrownS w ((T6 w3 g (n * 6) x0 x1 x2 x3 x4 x5).setCell ⟨b, 0, none⟩ (.slice (some ⟨g, 0, none⟩) (n + 1) cg)) X ∧ ∀ k, X k ∨ k = g → X k ∨ w.heap.size ≤ k := by
  obtain ⟨h3, h4⟩ := mid_x hM h2 hg
  have ht := (T6_grown w3 g (n * 6) x0 x1 x2 x3 x4 x5)
  have hs := (setb_grown (T6 w3 g (n * 6) x0 x1 x2 x3 x4 x5) b 0 (.slice (some ⟨g, 0, none⟩) (n + 1) cg))
  refine ⟨⟨hs.os.trans (ht.os.trans h3.os), hs.tape.trans (ht.tape.trans h3.tape), hs.output.trans (ht.output.trans h3.output), Nat.le_trans h3.size (Nat.le_trans ht.size hs.size), fun k hk hx => ?_⟩, h4⟩
  have hkg : k ≠ g := fun e => by
    rcases h4 k (.inr e) with e' | e'
    · exact hx e'
    · omega
  have hkb : k ≠ b := fun e => hx (by rw [e]; exact h2.xb)
  rw [hs.block k (Nat.lt_of_lt_of_le hk (Nat.le_trans h3.size ht.size)) hkb, ht.block k (Nat.lt_of_lt_of_le hk h3.size) hkg]
  exact h3.block k hk hx
theorem add_grownB {w w2 w3 : World} {b g q n cg : Nat} {X : Nat → Prop} {L2 : List (Prt × Value)} {pv bv x0 x1 x2 x3 x4 x5 : Value} {p : Prt} {v : Value} (hM : Mid w2 w3 b g q X pv bv p v) (h2 : LSg w2 b X L2 [] pv bv) (hg : GrownS w w2 X) :
    GrownS w (T6 (w3.setCell ⟨b, 0, none⟩ (.slice (some ⟨g, 0, none⟩) (n + 1) cg)) g (n * 6) x0 x1 x2 x3 x4 x5) X ∧ ∀ k, X k ∨ k = g → X k ∨ w.heap.size ≤ k := by
  obtain ⟨h3, h4⟩ := mid_x hM h2 hg
  have hs := (setb_grown w3 b 0 (.slice (some ⟨g, 0, none⟩) (n + 1) cg))
  have ht := (T6_grown (w3.setCell ⟨b, 0, none⟩ (.slice (some ⟨g, 0, none⟩) (n + 1) cg)) g (n * 6) x0 x1 x2 x3 x4 x5)
  refine ⟨⟨ht.os.trans (hs.os.trans h3.os), ht.tape.trans (hs.tape.trans h3.tape), ht.output.trans (hs.output.trans h3.output), Nat.le_trans h3.size (Nat.le_trans hs.size ht.size), fun k hk hx => ?_⟩, h4⟩
  have hkg : k ≠ g := fun e => by
    rcases h4 k (.inr e) with e' | e'
    · exact hx e'
    · omega
  have hkb : k ≠ b := fun e => hx (by rw [e]; exact h2.xb)
  rw [ht.block k (Nat.lt_of_lt_of_le hk (Nat.le_trans h3.size hs.size)) hkg, hs.block k (Nat.lt_of_lt_of_le hk h3.size) hkb]
  exact h3.block k hk hx
theorem addP_no {L : List (Prt × Value)} {bs : List UInt8} {p : Prt} (hg : goesB L p = false) : addP ((setL L bs).map Prod.fst) p = (setL L bs).map Prod.fst ++ [p] := by
  by_cases hL : L = []
  · subst hL; rfl
  · obtain ⟨M, y, rfl⟩ := last_ex hL
    unfold goesB at hg
    simp only [List.getLast?_append, List.getLast?_singleton, Option.some_or] at hg
    have key : ∀ y' : Prt × Value, y'.1.kind = y.1.kind → y'.1.quote = y.1.quote → addP ((M ++ [y']).map Prod.fst) p = (M ++ [y']).map Prod.fst ++ [p] := by
      intro y' h1 h2
      obtain ⟨⟨k, t, q, o, c, s⟩, u⟩ := y'
      rw [List.map_append]
      show addP (M.map Prod.fst ++ [.mk k t q o c s]) p = _
      rw [addP_snoc, if_neg]
      · simp
      · rintro ⟨e1, e2, e3⟩
        have e4 : y.1.kind = 1 := by rw [← h1]; exact e1
        have e5 : y.1.quote = p.quote := by rw [← h2]; exact e3
        simp [e4, e5, e2] at hg
    unfold setL
    simp only [List.getLast?_append, List.getLast?_singleton, Option.some_or, List.dropLast_concat]
    split
    · exact key _ rfl rfl
    · exact key _ rfl rfl
theorem end_oth {w w5 : World} {b g : Nat} {X : Nat → Prop} {L : List (Prt × Value)} {bs : List UInt8} {ps : List Prt} {p : Prt} {v pv bv : Value} (hps : (setL L bs).map Prod.fst = ps) (hg : goesB L p = false) (hk : (p.kind == 1) = false) (h5 : LSg w5 b (fun k => X k ∨ k = g) (setL L bs ++ [(p, v)]) [] pv bv) (hG : GrownS w w5 X) (hX : ∀ k, X k ∨ k = g → X k ∨ w.heap.size ≤ k) :
    ∃ X', LSt w5 b X' (addP ps p) ∧ GrownS w w5 X ∧ ∀ k, X' k → X k ∨ w.heap.size ≤ k := by
  refine ⟨_, ⟨_, _, _, _, h5, ?_, fun _ => rfl⟩, hG, hX⟩
  subst hps
  rw [addP_no hg]
  unfold setL
  simp [hk]
theorem GrownS.trans2 {w w1 w2 : World} {S T : Nat → Prop} (h : GrownS w w1 S) (h2 : GrownS w1 w2 T) (hT : ∀ k, k < w.heap.size → T k → S k) : GrownS w w2 S :=
  ⟨h2.os.trans h.os, h2.tape.trans h.tape, h2.output.trans h.output, Nat.le_trans h.size h2.size, fun k hk hn => (h2.block k (Nat.lt_of_lt_of_le hk h.size) (fun e => hn (hT k hk e))).trans (h.block k hk hn)⟩
theorem end_lit {w w5 w7 : World} {b g : Nat} {X : Nat → Prop} {L : List (Prt × Value)} {bs : List UInt8} {ps : List Prt} {p : Prt} {v pv v6 : Value} (hps : (setL L bs).map Prod.fst = ps) (hg : goesB L p = false) (hk : (p.kind == 1) = true) (h7 : LSg w7 b (fun k => (X k ∨ k = g) ∨ v6.ownBlock = some k) (setL L bs ++ [(p, v)]) ([] ++ p.text) pv v6) (hG : GrownS w w5 X) (hX : ∀ k, X k ∨ k = g → X k ∨ w.heap.size ≤ k) (h57 : GrownS w5 w7 (fun k => X k ∨ k = g)) (h6 : ∀ k, v6.ownBlock = some k → Value.ownBlock (.slice none 0 0) = some k ∨ w5.heap.size ≤ k) :
    ∃ X', LSt w7 b X' (addP ps p) ∧ GrownS w w7 X ∧ ∀ k, X' k → X k ∨ w.heap.size ≤ k := by
  refine ⟨_, ⟨_, _, _, _, h7, ?_, fun e => ?_⟩, hG.trans2 h57 (fun k hk e => ?_), fun k hk' => ?_⟩
  · subst hps
    rw [addP_no hg]
    unfold setL
    simp only [List.getLast?_append, List.getLast?_singleton, Option.some_or, hk, if_true, List.dropLast_concat, List.map_append]
    congr 1
    obtain ⟨k, t, q, o, c, s⟩ := p
    rfl
  · unfold litB at e
    simp [hk] at e
  · rcases hX k e with e | e
    · exact e
    · omega
  · rcases hk' with e | e
    · exact hX k e
    · rcases h6 k e with e | e
      · cases e
      · exact .inr (Nat.le_trans hG.size e)
theorem end_on {w w2 w7 : World} {b : Nat} {X : Nat → Prop} {L : List (Prt × Value)} {bs : List UInt8} {ps : List Prt} {p : Prt} {pv bv v6 : Value} (hps : (setL L bs).map Prod.fst = ps) (hg : goesB L p = true) (hbv : ∀ k, bv.ownBlock = some k → X k) (h7 : LSg w7 b (fun k => X k ∨ v6.ownBlock = some k) L (bs ++ p.text) pv v6) (hG : GrownS w w2 X) (h57 : GrownS w2 w7 X) (h6 : ∀ k, v6.ownBlock = some k → bv.ownBlock = some k ∨ w2.heap.size ≤ k) :
    ∃ X', LSt w7 b X' (addP ps p) ∧ GrownS w w7 X ∧ ∀ k, X' k → X k ∨ w.heap.size ≤ k := by
  have hL : L ≠ [] := by
    intro e
    rw [e] at hg
    cases hg
  obtain ⟨M, y, rfl⟩ := last_ex hL
  unfold goesB at hg
  simp only [List.getLast?_append, List.getLast?_singleton, Option.some_or, Bool.and_eq_true, beq_iff_eq] at hg
  obtain ⟨hk, hy, hq⟩ := hg
  refine ⟨_, ⟨_, _, _, _, h7, ?_, fun e => ?_⟩, hG.trans h57, fun k hk' => ?_⟩
  · subst hps
    unfold setL
    simp only [List.getLast?_append, List.getLast?_singleton, Option.some_or, hy, beq_self_eq_true, if_true, List.dropLast_concat, List.map_append, List.map_cons, List.map_nil]
    unfold setT
    simp only
    rw [addP_snoc, if_pos ⟨hy, hk, hq⟩]
  · unfold litB at e
    simp [hy] at e
  · rcases hk' with e | e
    · exact .inl e
    · rcases h6 k e with e | e
      · exact .inl (hbv k e)
      · exact .inr (Nat.le_trans hG.size e)
theorem bs_len {L : List (Prt × Value)} {bs : List UInt8} {ps : List Prt} (hps : (setL L bs).map Prod.fst = ps) (hb : litB L = false → bs = []) : bs.length ≤ tlen ps := by
  by_cases hL : L = []
  · subst hL
    rw [hb rfl]
    simp
  · obtain ⟨M, y, rfl⟩ := last_ex hL
    rcases Bool.eq_false_or_eq_true (y.1.kind == 1) with hk | hk
    · subst hps
      unfold setL
      simp only [List.getLast?_append, List.getLast?_singleton, Option.some_or, hk, if_true, List.dropLast_concat, List.map_append, List.map_cons, List.map_nil]
      rw [tlen_snoc]
      show bs.length ≤ _ + bs.length
      omega
    · rw [hb (by unfold litB; simp [hk])]
      simp
end Go.Proofs.YtnamfjbfcbamjaaGreatDoor
