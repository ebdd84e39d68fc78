/- The list of parts of package word, in memory: a row of parts, and the bytes of the last one.; The list of parts of package word: goesOn, settle, add.; Words, plainly: how much a text is read as; that more fuel turns nothing. -/
import Derived.Test.YtojjfdobilkknaaGreatDoorM12
import Derived.Test.YtojjfdobilkknaaGreatDoorM04
import Derived.Deep.AppendLies
import Derived.Deep.RegionHeld3
import Derived.RegionTactic
import Derived.BigRegion
import Derived.Test.YtojjfdobilkknaaGreatDoorM09
set_option maxRecDepth 20000
set_option maxHeartbeats 4000000
namespace Go.Proofs.YtojjfdobilkknaaGreatDoor
open Go.RowKit
def pcs (x : Prt × Value) : List Value := [.int .i64 x.1.kind, .string (BA x.1.text), .bool x.1.quote, .int .i64 x.1.op, .bool x.1.colon, x.2]
def flatP (L : List (Prt × Value)) : List Value := L.flatMap pcs
theorem flatP_snoc (L : List (Prt × Value)) (x : Prt × Value) : flatP (L ++ [x]) = flatP L ++ pcs x := by simp [flatP]
theorem flatP_len : ∀ L : List (Prt × Value), (flatP L).length = L.length * 6
 | [] => rfl
 | x :: r => by
   have := flatP_len r
   show (pcs x ++ flatP r).length = _
   rw [List.length_append, this]
   simp [pcs]
   omega
theorem flatP_get : ∀ (L : List (Prt × Value)) (i j : Nat) (x : Prt × Value), L[i]? = some x → j < 6 → (flatP L)[i * 6 + j]? = (pcs x)[j]?
 | y :: r, 0, j, x, h, hj => by
   simp at h
   subst h
   show (pcs y ++ flatP r)[0 * 6 + j]? = _
   rw [List.getElem?_append_left (by simp [pcs]; omega)]
   simp
 | y :: r, i + 1, j, x, h, hj => by
   show (pcs y ++ flatP r)[(i + 1) * 6 + j]? = _
   rw [List.getElem?_append_right (by simp [pcs]; omega), show (i + 1) * 6 + j - (pcs y).length = i * 6 + j by simp [pcs]; omega]
   exact flatP_get r i j x (by simpa using h) hj
def InW (b : Nat) (X : Nat → Prop) (w : World) (k : Nat) : Prop := b < k ∧ k < w.heap.size ∧ ¬ X k
structure LSg (w : World) (b : Nat) (X : Nat → Prop) (L : List (Prt × Value)) (bs : List UInt8) (pv bv : Value) : Prop where
 blk : Blk w b 158 #[pv, bv]
 row : w.ownsRow (b + 1) 89 6 pv L.length (flatP L)
 own : OwnB w (b + 1) bv bs
 sub : ∀ x ∈ L, WAt w (InW b X w) x.2 x.1.sub
 xb : X b
 xp : ∀ k, pv.ownBlock = some k → X k
 xv : ∀ k, bv.ownBlock = some k → X k
 lo : ∀ k, X k → b ≤ k
 hi : ∀ k, X k → k < w.heap.size
theorem LSg.below {w w1 : World} {b : Nat} {X : Nat → Prop} {L : List (Prt × Value)} {bs : List UInt8} {pv bv : Value} (h : LSg w b X L bs pv bv) (hb : Below w.heap.size w w1) : LSg w1 b X L bs pv bv := by
 have hg : GrownS w w1 (fun _ => False) := gsb hb
 exact ⟨h.blk.grownS hg (fun e => e), own_grownS h.row hg (fun _ _ e => e), own_grownS h.own hg (fun _ _ e => e), fun x hx => (h.sub x hx).kept (fun k hk => hb.block k hk.2.1) (fun k hk => ⟨hk.1, lle hk.2.1 hb.size, hk.2.2⟩), h.xb, h.xp, h.xv, h.lo, fun k hk => lle (h.hi k hk) hb.size⟩
theorem LSg.pshape {w : World} {b : Nat} {X : Nat → Prop} {L : List (Prt × Value)} {bs : List UInt8} {pv bv : Value} (h : LSg w b X L bs pv bv) :
 ∃ ad cap, pv = .slice ad L.length cap ∧ ∀ (i : Nat) (x : Prt × Value), L[i]? = some x → ∃ g, ad = some ⟨g, 0, none⟩ ∧ g < w.heap.size ∧ X g ∧ b < g ∧ (∀ j, w.frozen? ⟨g, j, none⟩ = false) ∧ ∀ j u, (pcs x)[j]? = some u → j < 6 → w.cell? ⟨g, i * 6 + j, none⟩ = some u := by
 obtain ⟨h1, ⟨hv, h0⟩ | ⟨g, cap, cur, hv, hb, hg, _, _, _, htk⟩⟩ := h.row
 ·refine ⟨none, 0, by rw [hv, h0], fun i x hi => ?_⟩
  have := (List.getElem?_eq_some_iff.1 hi).1
  omega
 ·refine ⟨_, cap, hv, fun i x hi => ⟨g, rfl, (Array.getElem?_eq_some_iff.1 hg).1, h.xp g (by rw [hv]; rfl), by omega, fun j => Blk.frozen (show Blk w g 89 cur from hg) j, fun j u hu hj => ?_⟩⟩
  have hil := (List.getElem?_eq_some_iff.1 hi).1
  have hp := flatP_get L i j x hi hj
  rw [hu, ← htk, List.getElem?_take, if_pos (by omega)] at hp
  exact Blk.cell (show Blk w g 89 cur from hg) (i * 6 + j) (by simpa using hp)
theorem LSg.bshape {w : World} {b : Nat} {X : Nat → Prop} {L : List (Prt × Value)} {bs : List UInt8} {pv bv : Value} (h : LSg w b X L bs pv bv) : ∃ ad n cap, bv = .slice ad n cap := by
 obtain ⟨_, ⟨hv, _⟩ | ⟨g, cap, cur, hv, _⟩⟩ := h.own
 ·exact ⟨_, _, _, hv⟩
 ·exact ⟨_, _, _, hv⟩
theorem LSg.ne_pb {w : World} {b : Nat} {X : Nat → Prop} {L : List (Prt × Value)} {bs : List UInt8} {pv bv : Value} (h : LSg w b X L bs pv bv) {k : Nat} (hp : pv.ownBlock = some k) : bv.ownBlock ≠ some k := by
 obtain ⟨_, ⟨hv, _⟩ | ⟨g, cap, cur, hv, _, hg, _⟩⟩ := h.row
 ·rw [hv] at hp; cases hp
 ·rw [hv] at hp
  have : g = k := by simpa [Value.ownBlock] using hp
  subst this
  exact fun e => own_type h.own (show Blk w g 89 cur from hg) (by decide) e.symm
theorem own_set {w : World} {base e sz n cap g : Nat} {xs : List Value} (h : w.ownsRow base e sz (.slice (some ⟨g, 0, none⟩) n cap) n xs) (j : Nat) (x : Value) : (w.setCell ⟨g, j, none⟩ x).ownsRow base e sz (.slice (some ⟨g, 0, none⟩) n cap) n (xs.set j x) := by
 obtain ⟨h1, ⟨hv, h0⟩ | ⟨g', cap', cur, hv, hb, hg, h2, h3, h4, htk⟩⟩ := h
 ·cases hv
 ·cases hv
  refine ⟨by rw [List.length_set]; exact h1, .inr ⟨g, cap, cur.setIfInBounds j x, rfl, hb, Blk.set (show Blk w g e cur from hg) j x, h2, h3, by simpa using h4, ?_⟩⟩
  rw [Array.toList_setIfInBounds, ← htk, List.take_set]
theorem LSg.setB {w w1 : World} {b : Nat} {X : Nat → Prop} {L : List (Prt × Value)} {bs bs1 : List UInt8} {pv bv bv1 : Value} (h : LSg w b X L bs pv bv) (hg : GrownS w w1 (fun k => some k = bv.ownBlock)) (ho : OwnB w1 (b + 1) bv1 bs1) (hx' : ∀ k, bv1.ownBlock = some k → bv.ownBlock = some k ∨ w.heap.size ≤ k) :
 LSg (w1.setCell ⟨b, 1, none⟩ bv1) b (fun k => X k ∨ bv1.ownBlock = some k) L bs1 pv bv1 ∧ GrownS w (w1.setCell ⟨b, 1, none⟩ bv1) X := by
 have hbv : some b ≠ bv.ownBlock := own_type h.own h.blk (by decide)
 have h1 := h.blk.grownS hg hbv
 have gs : GrownS w1 (w1.setCell ⟨b, 1, none⟩ bv1) (fun k => k = b) := GrownS.of (gsc w1 ⟨b, 1, none⟩ _) (fun k e => by simpa using e)
 have hb1 : some b ≠ bv1.ownBlock := own_type ho h1 (by decide)
 have gx : GrownS w (w1.setCell ⟨b, 1, none⟩ bv1) X := (hg.mono (fun k _ e => h.xv k e.symm)).trans (gs.mono (fun k _ e => by rw [e]; exact h.xb))
 refine ⟨⟨?_, ?_, ?_, ?_, .inl h.xb, fun k hk => .inl (h.xp k hk), fun k hk => .inr hk, ?_, ?_⟩, gx⟩
 ·have := h1.set 1 bv1
  simpa using this
 ·refine own_grownS (own_grownS h.row hg (fun k hk e => h.ne_pb hk e.symm)) gs (fun k hk e => ?_)
  subst e
  exact own_type h.row h.blk (by decide) hk.symm
 ·exact own_grownS ho gs (fun k hk e => hb1 (by rw [← e]; exact hk.symm))
 ·intro x hx
  refine (h.sub x hx).kept (fun k hk => gx.block k hk.2.1 hk.2.2) (fun k hk => ⟨hk.1, lle hk.2.1 gx.size, fun e => ?_⟩)
  rcases e with e | e
  ·exact hk.2.2 e
  ·rcases hx' k e with e | e
   ·exact hk.2.2 (h.xv k e)
   ·have := hk.2.1; omega
 ·intro k hk
  rcases hk with hk | hk
  ·exact h.lo k hk
  ·have := (World.ownsRow.lt ho k hk).1; omega
 ·intro k hk
  rcases hk with hk | hk
  ·exact lle (h.hi k hk) gx.size
  ·have := (World.ownsRow.lt ho k hk).2; simpa using this
theorem LSg.push {w wf : World} {b g cap : Nat} {X A : Nat → Prop} {L : List (Prt × Value)} {bs : List UInt8} {pv bv : Value} {x : Prt × Value} (h : LSg w b X L bs pv bv) (hb : Blk wf b 158 #[.slice (some ⟨g, 0, none⟩) (L.length + 1) cap, bv]) (hg : GrownS w wf (fun k => k = b ∨ some k = pv.ownBlock ∨ k = g)) (hat : pv.ownBlock = some g ∨ w.heap.size ≤ g)
 (ho : wf.ownsRow (b + 1) 89 6 (.slice (some ⟨g, 0, none⟩) (L.length + 1) cap) (L.length + 1) (flatP L ++ pcs x)) (hx : WAt w A x.2 x.1.sub) (hA : ∀ k, A k → InW b X w k) :
 LSg wf b (fun k => X k ∨ k = g) (L ++ [x]) bs (.slice (some ⟨g, 0, none⟩) (L.length + 1) cap) bv ∧ GrownS w wf X := by
 have hbl := h.blk.lt
 have hpv : some b ≠ pv.ownBlock := own_type h.row h.blk (by decide)
 have gx : GrownS w wf X := hg.mono (fun k hk e => by
  rcases e with e | e | e
  ·rw [e]; exact h.xb
  ·exact h.xp k e.symm
  ·rcases hat with e' | e'
   ·rw [e]; exact h.xp g e'
   ·omega)
 have hin : ∀ k, InW b X w k → InW b (fun k => X k ∨ k = g) wf k := fun k hk => ⟨hk.1, lle hk.2.1 gx.size, fun e => by
  rcases e with e | e
  ·exact hk.2.2 e
  ·rcases hat with e' | e'
   ·exact hk.2.2 (by rw [e]; exact h.xp g e')
   ·have := hk.2.1; omega⟩
 refine ⟨⟨hb, ?_, ?_, ?_, .inl h.xb, fun k hk => ?_, fun k hk => .inl (h.xv k hk), ?_, ?_⟩, gx⟩
 ·rw [flatP_snoc, List.length_append]
  exact ho
 ·refine own_grownS h.own hg (fun k hk e => ?_)
  rcases e with e | e | e
  ·subst e
   exact own_type h.own h.blk (by decide) hk.symm
  ·exact h.ne_pb e.symm hk
  ·subst e
   rcases hat with e' | e'
   ·exact h.ne_pb e' hk
   ·have := (World.ownsRow.lt h.own k hk).2; omega
 ·intro y hy
  rcases List.mem_append.1 hy with hy | hy
  ·exact (h.sub y hy).kept (fun k hk => gx.block k hk.2.1 hk.2.2) hin
  ·simp at hy
   subst hy
   exact hx.kept (fun k hk => gx.block k (hA k hk).2.1 (hA k hk).2.2) (fun k hk => hin k (hA k hk))
 ·have : g = k := by simpa [Value.ownBlock] using hk
  exact .inr this.symm
 ·intro k hk
  rcases hk with hk | hk
  ·exact h.lo k hk
  ·subst hk
   rcases hat with e | e
   ·exact h.lo k (h.xp k e)
   ·omega
 ·intro k hk
  rcases hk with hk | hk
  ·exact lle (h.hi k hk) gx.size
  ·have := (World.ownsRow.lt ho g rfl).2
   subst hk
   exact this
def T6 (w : World) (g o : Nat) (x0 x1 x2 x3 x4 x5 : Value) : World :=
 (((((w.setCell ⟨g, o, none⟩ x0).setCell ⟨g, o + 1, none⟩ x1).setCell ⟨g, o + 2, none⟩ x2).setCell ⟨g, o + 3, none⟩ x3).setCell ⟨g, o + 4, none⟩ x4).setCell ⟨g, o + 5, none⟩ x5
theorem T6_grown (w : World) (g o : Nat) (x0 x1 x2 x3 x4 x5 : Value) : GrownS w (T6 w g o x0 x1 x2 x3 x4 x5) (fun k => k = g) := by
 have h : ∀ (w : World) j v, GrownS w (w.setCell ⟨g, j, none⟩ v) (fun k => k = g) := fun w j v => GrownS.of (gsc w ⟨g, j, none⟩ v) (fun k e => by simpa using e)
 exact (((((h _ _ _).trans (h _ _ _)).trans (h _ _ _)).trans (h _ _ _)).trans (h _ _ _)).trans (h _ _ _)
theorem T6_own {w : World} {base e n cap g o : Nat} {xs : List Value} {z0 z1 z2 z3 z4 z5 : Value} (h : w.ownsRow base e 6 (.slice (some ⟨g, 0, none⟩) n cap) n (xs ++ [z0, z1, z2, z3, z4, z5])) (ho : xs.length = o) (x0 x1 x2 x3 x4 x5 : Value) :
 (T6 w g o x0 x1 x2 x3 x4 x5).ownsRow base e 6 (.slice (some ⟨g, 0, none⟩) n cap) n (xs ++ [x0, x1, x2, x3, x4, x5]) := by
 have := own_set (own_set (own_set (own_set (own_set (own_set h o x0) (o + 1) x1) (o + 2) x2) (o + 3) x3) (o + 4) x4) (o + 5) x5
 have e : ∀ (ys : List Value) (j : Nat) (v : Value), (xs ++ ys).set (o + j) v = xs ++ ys.set j v := fun ys j v => by
  rw [List.set_append_right _ _ (by omega), ho, Nat.add_sub_cancel_left]
 have e0 : ∀ (ys : List Value) (v : Value), (xs ++ ys).set o v = xs ++ ys.set 0 v := fun ys v => e ys 0 v
 simp only [e0, e, List.set_cons_zero, List.set_cons_succ] at this
 exact this
theorem own_cell {w : World} {base e n cap g sz : Nat} {xs : List Value} (h : w.ownsRow base e sz (.slice (some ⟨g, 0, none⟩) n cap) n xs) {j : Nat} {u : Value} (hu : xs[j]? = some u) : w.cell? ⟨g, j, none⟩ = some u ∧ w.frozen? ⟨g, j, none⟩ = false := by
 obtain ⟨h1, ⟨hv, h0⟩ | ⟨g', cap', cur, hv, hb, hg, h2, h3, h4, htk⟩⟩ := h
 ·cases hv
 ·cases hv
  refine ⟨Blk.cell (show Blk w g e cur from hg) j ?_, Blk.frozen (show Blk w g e cur from hg) j⟩
  rw [← htk, List.getElem?_take] at hu
  split at hu
  ·simpa using hu
  ·cases hu
def Box (w : World) (q : Nat) (p : Prt) (v : Value) : Prop := Blk w q 89 #[.int .i64 p.kind, .string (BA p.text), .bool p.quote, .int .i64 p.op, .bool p.colon, v]
theorem Box.six {w : World} {q : Nat} {p : Prt} {v : Value} (h : Box w q p v) : w.cell? ⟨q, 0, none⟩ = some (.int .i64 p.kind) ∧ w.cell? ⟨q, 1, none⟩ = some (.string (BA p.text)) ∧ w.cell? ⟨q, 2, none⟩ = some (.bool p.quote) ∧ w.cell? ⟨q, 3, none⟩ = some (.int .i64 p.op) ∧ w.cell? ⟨q, 4, none⟩ = some (.bool p.colon) ∧ w.cell? ⟨q, 5, none⟩ = some v :=
 ⟨Blk.cell h 0 rfl, Blk.cell h 1 rfl, Blk.cell h 2 rfl, Blk.cell h 3 rfl, Blk.cell h 4 rfl, Blk.cell h 5 rfl⟩
theorem append_str_at {P : Program} (w : World) (base : Nat) (t u ty e : TypeId) (i : TypeInfo) (ht : P.underlying t = some (.slice e)) (hu : P.underlying u = some .string) (hi : P.info? e = some i) (hz : i.zero = some (.int .u8 0))
 (hsize : i.size = 1) (hby : i.bytes = 1) (v : Value) (n : Nat) (xs : List Value) (hown : w.ownsRow base e 1 v n xs) (s : ByteArray) (h63 : n + s.size ≤ maxLen) (hbytes : n + s.size ≤ 140737488355328) {v' : Value} {w' : World}
 (hr : (Builtin.append_ #[t, u] ty #[v, .string s]).run P w = .ok v' w') : ∀ k, v'.ownBlock = some k → v.ownBlock = some k ∨ w.heap.size ≤ k := by
 have hsmall : n + s.size ≤ 9223372036854775807 := by simp only [maxLen] at h63; omega
 have hxl : xs.length = n := by simpa using hown.1
 rcases hown.2 with ⟨rfl, rfl⟩ | ⟨g, cap, cur, rfl, hbg, hg, hnc, hcm, hcs, htake⟩
 ·by_cases hm : s.size = 0
  ·have hf := Lib.run_firstCells_string (P := P) w 1 s
   rw [hm] at hf
   simp [Builtin.append_, run_underlying ht, run_underlying hu, sizeOf, typeInfo, hi, hsize, Builtin.lenOf, hm, hf] at hr
   rw [← hr.1]
   intro k hk
   cases hk
  ·have hr2 := run_append_nil_string (P := P) w t u ty e i (.int .u8 0) ht hu hi hz s (by omega) (by omega) (by rw [hby]; omega)
   rw [hr2] at hr
   cases hr
   intro k hk
   exact .inr (by simp [Value.ownBlock] at hk; omega)
 ·by_cases hroom : n + s.size ≤ cap
  ·have hcs' : cur.size = cap := by simpa using hcs
   have hr2 := Lib.run_append_room_string (P := P) w t u ty e i ht hu hi hsize g n cap cur hg s hroom (by omega)
   rw [hr2] at hr
   cases hr
   intro k hk
   exact .inl hk
  ·have holds : ∀ j u, xs[j]? = some u → w.cell? ((⟨g, 0, none⟩ : Addr).add j) = some u := World.ownsRow.cells (g := g) ⟨hown.1, .inr ⟨g, cap, cur, rfl, hbg, hg, hnc, hcm, hcs, htake⟩⟩ rfl
   have hr2 := Lib.run_append_grow_string (P := P) w t u ty e i (.int .u8 0) ht hu hi hz ⟨g, 0, none⟩ n cap xs (by rw [hsize]; simpa using hxl) holds s (by omega) (by omega) (by rw [hby]; exact growslice_fits (by omega) (by omega))
   rw [hr2] at hr
   cases hr
   intro k hk
   exact .inr (by simp [Value.ownBlock] at hk; omega)
theorem step_append_str {P : Program} {w : World} {ops : Array Oper} {o : Oper} {a : Act} {K : Act → World → Prop} {Q : Exit → Act → World → Prop} {E : Prop} (hgd : o.guard = none) (sl x : Operand) (t u : TypeId)
 (ho : o.op = .call { callee := .builtin .append, args := #[sl, x], argTypes := #[t, u] })
 (base : Nat) (e : TypeId) (i : TypeInfo) (ht : P.underlying t = some (.slice e)) (hu : P.underlying u = some .string) (hi : P.info? e = some i) (hz : i.zero = some (.int .u8 0))
 (hsize : i.size = 1) (hby : i.bytes = 1)
 (v : Value) (n : Nat) (xs : List Value) (hs : a.eval sl = v) (hown : w.ownsRow base e 1 v n xs) (s : ByteArray) (hx : a.eval x = .string s)
 (h63 : n + s.size ≤ maxLen) (hbytes : n + s.size ≤ 140737488355328) (hbase : base ≤ w.heap.size)
 (h : ∀ v' w', w'.ownsRow base e 1 v' (n + s.size) (xs ++ Lib.strCells s) → w.grownBy w' v.ownBlock → (∀ k, v'.ownBlock = some k → v.ownBlock = some k ∨ w.heap.size ≤ k) → K (a.put o.dst v') w') :
 if Region.wanted o (yielded ops a.tmps) = true then Oper.wp P o a w K Q else E := by
 have hw : Region.wanted o (yielded ops a.tmps) = true := by simp [Region.wanted, hgd]
 rw [if_pos hw]
 obtain ⟨v', w', hr, h2, h3, h4⟩ := Lib.run_append_own_string (P := P) w base t u o.type e i ht hu hi hz hsize hby v n xs hown s h63 hbytes hbase
 have h5 := append_str_at (P := P) w base t u o.type e i ht hu hi hz hsize hby v n xs hown s h63 hbytes hr
 unfold Oper.wp execOp
 simp only [ho, resolve, invoke, builtin, Sem.run_bind, Sem.run_pure, Result.andThen_ok, List.map_toArray, List.map_cons, List.map_nil, hs, hx, hr]
 exact h v' w' h2 h3 h5
theorem six_cells {w : World} {t : TypeId} {a0 a1 a2 a3 a4 a5 : Value} : ∀ j u, [a0, a1, a2, a3, a4, a5][j]? = some u → ((w.alloc (.cells #[a0, a1, a2, a3, a4, a5] t)).drew).cell? ((⟨w.heap.size, 0, none⟩ : Addr).add j) = some u := by
 intro j u hj
 rw [add_at]
 have hb : Blk (w.alloc (.cells #[a0, a1, a2, a3, a4, a5] t)) w.heap.size t #[a0, a1, a2, a3, a4, a5] := Blk.new w t _
 exact Blk.cell (hb.kept (w' := (w.alloc (.cells #[a0, a1, a2, a3, a4, a5] t)).drewN 1) (gdn _ 1) (by simp)) j (by simpa using hj)
theorem zero_is : ∀ u ∈ [Value.int .i64 0, .string ⟨#[]⟩, .bool false, .int .i64 0, .bool false, .slice none 0 0], u.oneCell' = true := by
 intro u hu
 simp at hu
 rcases hu with rfl | rfl | rfl | rfl | rfl | rfl <;> rfl
theorem und_word : Tryz.prog.underlying 36 = some (.slice 89) := by kernel_rfl
theorem info_part : (Tryz.prog.info? 89).map (fun i => (i.zero, i.size, i.bytes)) = some (some (.agg #[.int .i64 0, .string ⟨#[]⟩, .bool false, .int .i64 0, .bool false, .slice none 0 0]), 6, 72) := by kernel_rfl
def goesB (L : List (Prt × Value)) (p : Prt) : Bool := match L.getLast? with
 | none => false
 | some x => p.kind == 1 && (x.1.kind == 1 && x.1.quote == p.quote)
theorem last_ex {L : List (Prt × Value)} (h : L ≠ []) : ∃ M x, L = M ++ [x] := ⟨L.dropLast, L.getLast h, (List.dropLast_concat_getLast h).symm⟩
theorem goesOn_any (w : World) (b : Nat) (X A : Nat → Prop) (L : List (Prt × Value)) (bs : List UInt8) (pv bv x : Value) (p : Prt) (h : LSg w b X L bs pv bv) (hx : PV w A x p) (hl : L.length ≤ 100000) :
 Calls Tryz.prog 146 #[.pointer (some ⟨b, 0, none⟩), x] w fun e w' => e = .returned (.bool (goesB L p)) ∧ Below w.heap.size w w' := by
 obtain ⟨v, rfl, hs⟩ := hx
 obtain ⟨ad, cap, rfl, hsh⟩ := h.pshape
 have c0 : w.cell? ⟨b, 0, none⟩ = some (.slice ad L.length cap) := h.blk.cell 0 rfl
 have hbl := h.blk.lt
 by_cases hL : L = []
 ·subst hL
  clear hsh h hs
  go_enter Tryz.func146, Tryz.ntmps146
  go_wp2
  go_ret
  exact ⟨rfl, (Below.refl _ w).alloc (ler _) _⟩
 obtain ⟨M, y, rfl⟩ := last_ex hL
 obtain ⟨g, rfl, hg, _, _, _, hc⟩ := hsh M.length y (by simp)
 have hln : (M ++ [y]).length = M.length + 1 := by simp
 rw [hln] at c0 hl
 have hgo : goesB (M ++ [y]) p = (p.kind == 1 && (y.1.kind == 1 && y.1.quote == p.quote)) := by unfold goesB; simp
 rw [hgo]
 have y0 : w.cell? ⟨g, M.length * 6, none⟩ = some (.int .i64 y.1.kind) := hc 0 _ rfl (by decide)
 have y1 : w.cell? ⟨g, M.length * 6 + 1, none⟩ = some (.string (BA y.1.text)) := hc 1 _ rfl (by decide)
 have y2 : w.cell? ⟨g, M.length * 6 + 2, none⟩ = some (.bool y.1.quote) := hc 2 _ rfl (by decide)
 have y3 : w.cell? ⟨g, M.length * 6 + 3, none⟩ = some (.int .i64 y.1.op) := hc 3 _ rfl (by decide)
 have y4 : w.cell? ⟨g, M.length * 6 + 4, none⟩ = some (.bool y.1.colon) := hc 4 _ rfl (by decide)
 have y5 : w.cell? ⟨g, M.length * 6 + 5, none⟩ = some y.2 := hc 5 _ rfl (by decide)
 obtain ⟨yv, yn, yc, hy⟩ : ∃ a n c, y.2 = .slice a n c := by
  obtain ⟨a, c, e, _⟩ := (h.sub y (by simp)).len
  exact ⟨_, _, _, e⟩
 rw [hy] at y5
 generalize M.length = n at *
 have hn0 : ((n : Int) + 1 == 0) = false := by rw [beq_eq_false_iff_ne]; omega
 clear hsh h hs hc hgo hL hy hln
 rcases Bool.eq_false_or_eq_true (p.kind == 1) with hk | hk
 ·have hk2 : (p.kind != 1) = false := by simpa using hk
  go_enter Tryz.func146, Tryz.ntmps146
  go_wp2
  go_region
  go_wp2
  all_goals
   go_ret
   refine ⟨ret_bool (by simp [*]), ?_⟩
   first
   | exact (((Below.refl _ w).alloc (ler _) _).alloc (by simp) _).drew
   | exact (((Below.refl _ w).alloc (ler _) _).drew).alloc (by simp) _
 ·have hk2 : (p.kind != 1) = true := by simpa using hk
  go_enter Tryz.func146, Tryz.ntmps146
  go_wp2
  go_ret
  rw [hk]
  exact ⟨rfl, (Below.refl _ w).alloc (ler _) _⟩
theorem grownX {w : World} {a : Addr} {X : Nat → Prop} (h : X a.block) (v : Value) : GrownS w (w.setCell a v) X := GrownS.of (gsc w a v) (fun k e => by
 have : k = a.block := by simpa using e
 rw [this]
 exact h)
def setT (x : Prt × Value) (bs : List UInt8) : Prt × Value := (.mk x.1.kind bs x.1.quote x.1.op x.1.colon x.1.sub, x.2)
theorem LSg.text {w : World} {b g cap : Nat} {X : Nat → Prop} {M : List (Prt × Value)} {y : Prt × Value} {bs t : List UInt8} {bv : Value} (h : LSg w b X (M ++ [y]) bs (.slice (some ⟨g, 0, none⟩) (M.length + 1) cap) bv) :
 LSg (w.setCell ⟨g, M.length * 6 + 1, none⟩ (.string (BA t))) b X (M ++ [setT y t]) bs (.slice (some ⟨g, 0, none⟩) (M.length + 1) cap) bv := by
 have hXg : X g := h.xp g rfl
 have gs : GrownS w (w.setCell ⟨g, M.length * 6 + 1, none⟩ (.string (BA t))) (fun k => k = g) := GrownS.of (gsc w ⟨g, M.length * 6 + 1, none⟩ _) (fun k e => by simpa using e)
 have hrow := h.row
 rw [show (M ++ [y]).length = M.length + 1 by simp] at hrow
 have hbg : b ≠ g := by
  have := (World.ownsRow.lt hrow g rfl).1
  omega
 refine ⟨h.blk.grownS gs hbg, ?_, own_grownS h.own gs (fun k hk e => h.ne_pb (k := g) rfl (by rw [← e]; exact hk)), ?_, h.xb, h.xp, h.xv, h.lo, fun k hk => by have := h.hi k hk; simpa using this⟩
 ·have := own_set hrow (M.length * 6 + 1) (.string (BA t))
  rw [show (M ++ [setT y t]).length = M.length + 1 by simp]
  rw [flatP_snoc] at this ⊢
  rw [List.set_append_right _ _ (by rw [flatP_len]; omega), flatP_len, show M.length * 6 + 1 - M.length * 6 = 1 by omega] at this
  exact this
 ·intro x hx
  have hk : ∀ v s, WAt w (InW b X w) v s → WAt (w.setCell ⟨g, M.length * 6 + 1, none⟩ (.string (BA t))) (InW b X (w.setCell ⟨g, M.length * 6 + 1, none⟩ (.string (BA t)))) v s := fun v s hv =>
   hv.kept (fun k hk => gs.block k hk.2.1 (fun e => hk.2.2 (by rw [e]; exact hXg))) (fun k hk => ⟨hk.1, by simpa using hk.2.1, hk.2.2⟩)
  rcases List.mem_append.1 hx with hx | hx
  ·exact hk _ _ (h.sub x (List.mem_append_left _ hx))
  ·simp at hx
   subst hx
   exact hk _ _ (h.sub y (by simp))
theorem LSg.clr {w : World} {b : Nat} {X : Nat → Prop} {L : List (Prt × Value)} {bs : List UInt8} {pv bv : Value} (h : LSg w b X L bs pv bv) : LSg (w.setCell ⟨b, 1, none⟩ (.slice none 0 0)) b X L [] pv (.slice none 0 0) := by
 have gs : GrownS w (w.setCell ⟨b, 1, none⟩ (.slice none 0 0)) (fun k => k = b) := GrownS.of (gsc w ⟨b, 1, none⟩ _) (fun k e => by simpa using e)
 refine ⟨?_, own_grownS h.row gs (fun k hk e => own_type h.row h.blk (by decide) (by rw [← e]; exact hk.symm)), ownB_nil _ _, ?_, h.xb, h.xp, by simp [Value.ownBlock], h.lo, fun k hk => by have := h.hi k hk; simpa using this⟩
 ·have := h.blk.set 1 (.slice none 0 0)
  simpa using this
 ·intro x hx
  exact (h.sub x hx).kept (fun k hk => gs.block k hk.2.1 (fun e => hk.2.2 (by rw [e]; exact h.xb))) (fun k hk => ⟨hk.1, by simpa using hk.2.1, hk.2.2⟩)
def litB (L : List (Prt × Value)) : Bool := match L.getLast? with
 | none => false
 | some x => x.1.kind == 1
def setL (L : List (Prt × Value)) (bs : List UInt8) : List (Prt × Value) := match L.getLast? with
 | none => L
 | some x => if x.1.kind == 1 then L.dropLast ++ [setT x bs] else L
theorem settle_any (w : World) (b : Nat) (X : Nat → Prop) (L : List (Prt × Value)) (bs : List UInt8) (pv bv : Value) (h : LSg w b X L bs pv bv) (hl : L.length ≤ 100000) :
 Calls Tryz.prog 139 #[.pointer (some ⟨b, 0, none⟩)] w fun e w' => e = .returned (.tuple #[]) ∧ LSg w' b X (setL L bs) [] pv (.slice none 0 0) ∧ GrownS w w' X := by
 obtain ⟨ad, cap, rfl, hsh⟩ := h.pshape
 have c0 : w.cell? ⟨b, 0, none⟩ = some (.slice ad L.length cap) := h.blk.cell 0 rfl
 have c1 : w.cell? ⟨b, 1, none⟩ = some bv := h.blk.cell 1 rfl
 have z1 : w.frozen? ⟨b, 1, none⟩ = false := h.blk.frozen 1
 have hbl := h.blk.lt
 obtain ⟨ba, bn, bc, hbv⟩ := h.bshape
 by_cases hL : L = []
 ·subst hL
  have HF : Hid (LSg (w.setCell ⟨b, 1, none⟩ (.slice none 0 0)) b X (setL [] bs) [] (.slice ad 0 cap) (.slice none 0 0) ∧ GrownS w (w.setCell ⟨b, 1, none⟩ (.slice none 0 0)) X) := hide ⟨h.clr, grownX (a := ⟨b, 1, none⟩) h.xb _⟩
  subst hbv
  clear hsh h
  go_enter Tryz.func139, Tryz.ntmps139
  go_wp2
  refine bodyPost_end (res0 rfl _ _) rfl ?_
  exact ⟨rfl, uh HF⟩
 obtain ⟨M, y, rfl⟩ := last_ex hL
 obtain ⟨g, rfl, hg, _, hbg, hfz, hc⟩ := hsh M.length y (by simp)
 have hln : (M ++ [y]).length = M.length + 1 := by simp
 rw [hln] at c0 hl h ⊢
 have y0 : w.cell? ⟨g, M.length * 6, none⟩ = some (.int .i64 y.1.kind) := hc 0 _ rfl (by decide)
 have y1 : w.cell? ⟨g, M.length * 6 + 1, none⟩ = some (.string (BA y.1.text)) := hc 1 _ rfl (by decide)
 have zy := hfz (M.length * 6 + 1)
 rcases Bool.eq_false_or_eq_true (y.1.kind == 1) with hk | hk
 ·have hset : setL (M ++ [y]) bs = M ++ [setT y bs] := by unfold setL; simp [hk]
  have hT := h.text (t := bs)
  have HF : Hid (LSg ((w.setCell ⟨g, M.length * 6 + 1, none⟩ (.string (BA bs))).setCell ⟨b, 1, none⟩ (.slice none 0 0)) b X (setL (M ++ [y]) bs) [] (.slice (some ⟨g, 0, none⟩) (M.length + 1) cap) (.slice none 0 0) ∧ GrownS w ((w.setCell ⟨g, M.length * 6 + 1, none⟩ (.string (BA bs))).setCell ⟨b, 1, none⟩ (.slice none 0 0)) X) := hide ⟨by rw [hset]; exact hT.clr,
   (grownX (a := ⟨g, M.length * 6 + 1, none⟩) (h.xp g rfl) _).trans (grownX (a := ⟨b, 1, none⟩) h.xb _)⟩
  have hcv : (convert 116 9 bv).run Tryz.prog w.drew = .ok (.string (BA bs)) w.drew := OwnB.text (own_drew h.own)
  subst hbv
  generalize M.length = n at *
  have hk2 : y.1.kind = 1 := by simpa using hk
  have hn1 : IntKind.i64.wrap ((n : Int) + 1 - 1) = (n : Int) := by rw [IntKind.wrap_i64]; omega
  clear hsh h hc hset hT hfz hln hL
  go_enter Tryz.func139, Tryz.ntmps139
  go_wp2
  go_region
  go_wp2
  refine bodyPost_end (res0 rfl _ _) rfl ?_
  exact ⟨rfl, (uh HF).1.below (bdr _ 1), (uh HF).2.trans (gsb (bdr _ 1))⟩
 ·have hset : setL (M ++ [y]) bs = M ++ [y] := by unfold setL; simp [hk]
  have HF : Hid (LSg (w.setCell ⟨b, 1, none⟩ (.slice none 0 0)) b X (setL (M ++ [y]) bs) [] (.slice (some ⟨g, 0, none⟩) (M.length + 1) cap) (.slice none 0 0) ∧ GrownS w (w.setCell ⟨b, 1, none⟩ (.slice none 0 0)) X) := hide ⟨by rw [hset]; exact h.clr, grownX (a := ⟨b, 1, none⟩) h.xb _⟩
  subst hbv
  generalize M.length = n at *
  clear hsh h hc hset hfz hln hL
  go_enter Tryz.func139, Tryz.ntmps139
  go_wp2
  refine bodyPost_end (res0 rfl _ _) rfl ?_
  exact ⟨rfl, uh HF⟩
end Go.Proofs.YtojjfdobilkknaaGreatDoor
namespace Go.Proofs.YtojjfdobilkknaaGreatDoor
theorem thg_rest {n : Nat} {c : UInt8} {r rest : List UInt8} {wh d : Nat} (h : thg (n + 3) (c :: r) wh d = .ok rest) : rest.length ≤ r.length := by
 have := thg_len (n + 2) c r wh d
 rw [h] at this
 exact this
theorem mid_len (u : List UInt8) : (u.drop 1).dropLast.length ≤ u.length - 2 := by simp; omega
theorem sgn_len {c : Bool} {l t : List UInt8} {o : Int} (h : sgnL c l = some (o, t)) : t.length < l.length := by
 unfold sgnL at h
 split at h <;> simp at h <;> obtain ⟨_, rfl⟩ := h <;> simp <;> omega
theorem behind_len (l : List UInt8) : (behindL l).length ≤ l.length := by
 unfold behindL
 split <;> simp
theorem brc_congr {rd rd' : Nat → List UInt8 → Rd} {w n : Nat} {l : List UInt8} (h : ∀ w t, t.length ≤ n → rd w t = rd' w t) (hl : l.length ≤ n) : brcL rd w l = brcL rd' w l := by
 unfold brcL
 split
 ·rfl
 split
 ·rfl
 split
 ·rfl
 cases hs : sgnL (colonL (l.drop (parN l))) (behindL (l.drop (parN l))) with
 | none => rfl
 | some x =>
   obtain ⟨op, t⟩ := x
   have h1 := sgn_len hs
   have h2 := behind_len (l.drop (parN l))
   have h3 : (l.drop (parN l)).length ≤ l.length := by simp
   simp only [h (withinW w op) t (by omega)]
theorem thn_congr {rd rd' : Nat → List UInt8 → Rd} {w n : Nat} {c : UInt8} {u rest : List UInt8} (h : ∀ w t, t.length ≤ n → rd w t = rd' w t) (hl : u.length ≤ n) : thnL rd w c u rest = thnL rd' w c u rest := by
 unfold thnL lngL
 have h1 := mid_len u
 rw [h 2 u.dropLast (by simp; omega), brc_congr (w := w) h (show (u.drop 1).dropLast.length ≤ n by omega)]
theorem thi_congr {b : Bool} {rd rd' : Nat → List UInt8 → Rd} {w n : Nat} {c : UInt8} {r : List UInt8} (h : ∀ w t, t.length ≤ n → rd w t = rd' w t) (hl : r.length ≤ n) : thiL b rd w c r = thiL b rd' w c r := by
 unfold thiL
 cases thg (3 * (r.length + 1) + 3) (c :: r) (if flagW b w c then 1 else 0) 0 with
 | err e m => rfl
 | ok rest => exact thn_congr h (by simp; omega)
theorem front_le (l : List UInt8) : frontN l ≤ l.length := by
 cases l with
 | nil => simp [frontN]
 | cons c r =>
   show (if alpB (c.toNat : Int) = true then spanN namB (c :: r) else 0) ≤ _
   have := spanN_le namB (c :: r)
   split
   ·exact this
   ·omega
theorem nmd_le (l : List UInt8) : nmdN l ≤ l.length := by
 unfold nmdN
 have hf := front_le l
 split
 ·exact hf
 ·cases l with
  | nil => simp
  | cons c r => simp only; split <;> simp
theorem thi_rest {b : Bool} {rd : Nat → List UInt8 → Rd} {w : Nat} {c : UInt8} {r : List UInt8} {ps : List Prt} {rest : List UInt8} (h : thiL b rd w c r = .ok ps rest) : rest.length ≤ r.length := by
 unfold thiL at h
 cases ht : thg (3 * (r.length + 1) + 3) (c :: r) (if flagW b w c then 1 else 0) 0 with
 | err e m => rw [ht] at h; cases h
 | ok rs =>
   rw [ht] at h
   have h1 := thg_rest ht
   simp only at h
   unfold thnL at h
   repeat' split at h
   all_goals first
    | (cases h; done)
    | (cases h; exact h1)
    | (cases h; simp; omega)
theorem rd_more {b : Bool} : ∀ (f g w : Nat) (l : List UInt8), l.length < f → l.length < g → rdL b f w l = rdL b g w l
 | 0, _, _, _, h, _ => absurd h (by omega)
 | _ + 1, 0, _, _, _, h => absurd h (by omega)
 | f + 1, g + 1, w, [], _, _ => by rw [rdL, rdL]
 | f + 1, g + 1, w, c :: r, hf, hg => by
   simp at hf hg
   rw [rdL, rdL]
   rw [thi_congr (rd := rdL b f) (rd' := rdL b g) (n := r.length) (fun w t ht => rd_more f g w t (by omega) (by omega)) (ler _)]
   cases ht : thiL b (rdL b g) w c r with
   | err e => rfl
   | ok ps rest =>
     have h1 := thi_rest ht
     simp only
     rw [rd_more f g w rest (by omega) (by omega)]
def rdC (b : Bool) (w : Nat) (l : List UInt8) : Rd := rdL b (l.length + 1) w l
def Rd.pre (ps : List Prt) : Rd → Rd
 | .ok qs => .ok (ps ++ qs)
 | .err e => .err e
theorem rdC_nil (b : Bool) (w : Nat) : rdC b w [] = .ok [] := by unfold rdC; rw [rdL]
theorem rdC_err {b : Bool} {w : Nat} {c : UInt8} {r : List UInt8} {e : Int} (h : thiL b (rdC b) w c r = .err e) : rdC b w (c :: r) = .err e := by
 unfold rdC
 rw [List.length_cons, rdL, thi_congr (rd' := rdC b) (n := r.length) (fun w t ht => rd_more _ _ w t (by omega) (by omega)) (ler _), h]
theorem rdC_ok {b : Bool} {w : Nat} {c : UInt8} {r rest : List UInt8} {ps : List Prt} (h : thiL b (rdC b) w c r = .ok ps rest) : rdC b w (c :: r) = (rdC b w rest).pre ps := by
 have h1 := thi_rest h
 unfold rdC
 rw [List.length_cons, rdL, thi_congr (rd' := rdC b) (n := r.length) (fun w t ht => rd_more _ _ w t (by omega) (by omega)) (ler _), h]
 simp only
 rw [rd_more (r.length + 1) (rest.length + 1) w rest (by omega) (by omega)]
 cases rdL b (rest.length + 1) w rest <;> rfl
theorem wrd_of {b : Bool} {w : Nat} {l : List UInt8} (h : l.length ≤ 4096) : wrdL b w l = (rdC b w l).word := by
 unfold wrdL
 rw [if_neg (by omega)]
 rfl
def tlen (ps : List Prt) : Nat := (ps.map fun p => p.text.length).sum
theorem tlen_snoc (ps : List Prt) (p : Prt) : tlen (ps ++ [p]) = tlen ps + p.text.length := by simp [tlen]
theorem tlen_app (ps qs : List Prt) : tlen (ps ++ qs) = tlen ps + tlen qs := by simp [tlen]
def Few (n : Nat) (ps : List Prt) : Prop := ps.length ≤ n ∧ tlen ps ≤ n
theorem addP_few (ps : List Prt) (p : Prt) : (addP ps p).length ≤ ps.length + 1 ∧ tlen (addP ps p) ≤ tlen ps + p.text.length := by
 rcases List.eq_nil_or_concat ps with rfl | ⟨qs, q, rfl⟩
 ·rw [addP_nil]; simp [tlen]
 ·obtain ⟨k, t, q, o, c, s⟩ := q
  rw [List.concat_eq_append, addP_snoc]
  split
  ·simp [tlen, Prt.text]; omega
  ·rw [show qs ++ [Prt.mk k t q o c s, p] = (qs ++ [.mk k t q o c s]) ++ [p] by simp, tlen_snoc]; simp
theorem fold_few : ∀ (qs ps : List Prt), (qs.foldl addP ps).length ≤ ps.length + qs.length ∧ tlen (qs.foldl addP ps) ≤ tlen ps + tlen qs
 | [], ps => by simp [tlen]
 | q :: qs, ps => by
   have h1 := fold_few qs (addP ps q)
   have h2 := addP_few ps q
   rw [List.foldl_cons]
   have h3 : tlen (q :: qs) = q.text.length + tlen qs := by simp [tlen]
   simp only [List.length_cons]
   omega
theorem few_one {n : Nat} {p : Prt} (h : p.text.length ≤ n) (h1 : 1 ≤ n) : Few n [p] := ⟨by simpa using h1, by simp [tlen]; exact h⟩
theorem few_lit {n : Nat} {t : List UInt8} {q : Bool} (h : t.length ≤ n) (h1 : 1 ≤ n) : Few n [litP t q] := few_one h h1
def FewRd (n : Nat) : Rd → Prop
 | .ok ps => Few n ps
 | .err _ => True
theorem few_word {n : Nat} {r : Rd} (h : FewRd n r) : FewRd n r.word := by
 cases r with
 | err e => trivial
 | ok ps =>
   have h1 := fold_few ps []
   exact ⟨by have := h.1; simp at h1; show (ps.foldl addP []).length ≤ n; omega, by have := h.2; have h2 : tlen ([] : List Prt) = 0 := rfl; show tlen (ps.foldl addP []) ≤ n; omega⟩
theorem par_le (l : List UInt8) : parN l ≤ l.length := by
 unfold parN
 have hf := front_le l
 split
 ·exact hf
 ·cases l with
  | nil => simp
  | cons c r =>
    simp only
    have := spanN_le digB (c :: r)
    split
    ·simp
    ·split
     ·omega
     ·exact this
theorem brc_text {rd : Nat → List UInt8 → Rd} {w : Nat} {l : List UInt8} {p : Prt} (h : brcL rd w l = .ok p) : p.text.length ≤ l.length := by
 unfold brcL at h
 repeat' split at h
 all_goals first
  | (cases h; done)
  | (cases h; simp [Prt.text]; done)
  | (cases h; simp [Prt.text]; omega)
theorem run_text (l : List UInt8) : (runP l).text.length ≤ l.length := by
 unfold runP
 split <;> simp [Prt.text]
 omega
theorem setQ_text (q : Bool) (p : Prt) : (setQ q p).text = p.text := by cases p; rfl
theorem thi_few {b : Bool} {rd : Nat → List UInt8 → Rd} {w : Nat} {c : UInt8} {r : List UInt8} {ps : List Prt} {rest : List UInt8} (hrd : ∀ t, t.length ≤ r.length → FewRd t.length (rd 2 t)) (h : thiL b rd w c r = .ok ps rest) : Few (r.length + 1 - rest.length) ps := by
 unfold thiL at h
 cases ht : thg (3 * (r.length + 1) + 3) (c :: r) (if flagW b w c then 1 else 0) 0 with
 | err e m => rw [ht] at h; cases h
 | ok rs =>
   rw [ht] at h
   have h1 := thg_rest ht
   simp only at h
   obtain ⟨u, hu⟩ : ∃ u, u = r.take (r.length - rs.length) := ⟨_, rfl⟩
   have hul : u.length = r.length - rs.length := by rw [hu, List.length_take]; omega
   rw [← hu] at h
   unfold thnL at h
   split at h
   ·cases h
    unfold pairL
    split
    ·exact ⟨by simp, by simp [tlen]⟩
    ·split
     ·exact few_lit (by simp; omega) (by omega)
     ·split
      ·exact few_lit (by simp; omega) (by omega)
      ·exact few_lit (by omega) (by omega)
   split at h
   ·cases h
    exact few_lit (by simp; omega) (by omega)
   split at h
   ·have h2 := few_word (hrd u.dropLast (by simp; omega))
    cases hw : (rd 2 u.dropLast).word with
    | err e => rw [hw] at h; cases h
    | ok qs =>
      rw [hw] at h h2
      cases h
      split
      ·exact few_lit (by simp) (by omega)
      ·have h3 : u.dropLast.length ≤ u.length := by simp
       exact ⟨by have := h2.1; omega, by have := h2.2; omega⟩
   split at h
   ·split at h
    ·cases h
     exact few_lit (by simp; omega) (by omega)
    ·cases h
     have := nmd_le rs
     refine few_one (show (rs.take (nmdN rs)).length ≤ _ by simp; omega) (by simp; omega)
   split at h
   ·cases hl : lngL rd w u with
    | err e => rw [hl] at h; cases h
    | ok p =>
      rw [hl] at h
      cases h
      have h2 : p.text.length ≤ u.length := by
       unfold lngL at hl
       have h3 := mid_len u
       split at hl
       ·cases hl
        have := run_text (u.drop 1).dropLast
        omega
       ·have := brc_text hl
        omega
      exact few_one (by rw [setQ_text]; omega) (by omega)
   split at h
   ·cases h
   ·cases h
    exact few_lit (by simp; omega) (by omega)
theorem few_add {m n k : Nat} {ps qs : List Prt} (h : Few m ps) (h2 : Few n qs) (hk : m + n ≤ k) : Few k (ps ++ qs) := ⟨by rw [List.length_append]; have := h.1; have := h2.1; omega, by rw [tlen_app]; have := h.2; have := h2.2; omega⟩
theorem rdC_few (b : Bool) : ∀ (n w : Nat) (l : List UInt8), l.length ≤ n → FewRd l.length (rdC b w l)
 | _, w, [], _ => by rw [rdC_nil]; exact ⟨by simp, by simp [tlen]⟩
 | 0, _, _ :: _, h => by simp at h
 | n + 1, w, c :: r, h => by
   simp at h
   cases ht : thiL b (rdC b) w c r with
   | err e => rw [rdC_err ht]; trivial
   | ok ps rest =>
     have h1 := thi_rest ht
     have h2 := thi_few (fun t ht => rdC_few b n 2 t (by omega)) ht
     have h3 := rdC_few b n w rest (by omega)
     rw [rdC_ok ht]
     cases hr : rdC b w rest with
     | err e => trivial
     | ok qs =>
       rw [hr] at h3
       exact few_add h2 h3 (by simp; omega)
end Go.Proofs.YtojjfdobilkknaaGreatDoor
