/-
  The list of parts of package word, in memory: a row of parts, and the bytes of the last one.
-/
import Derived.Test.YtodcfgbcigjjfaaDoorWMem
import Derived.Test.YtodcfgbcigjjfaaDoorGrown
import Derived.Deep.AppendLies
namespace Go.Proofs.YtodcfgbcigjjfaaDoor
open Go.RowKit

/-- A part's six cells. -/
def pcs (x : Prt × Value) : List Value := [.int .i64 x.1.kind, .string (BA x.1.text), .bool x.1.quote, .int .i64 x.1.op, .bool x.1.colon, x.2]
def flatP (L : List (Prt × Value)) : List Value := L.flatMap pcs
theorem flatP_snoc (L : List (Prt × Value)) (x : Prt × Value) : flatP (L ++ [x]) = flatP L ++ pcs x := by simp [flatP]
theorem flatP_len : ∀ L : List (Prt × Value), (flatP L).length = L.length * 6
  | [] => rfl
  | x :: r => by
    have := flatP_len r
    show (pcs x ++ flatP r).length = _
    rw [List.length_append, this]
    simp [pcs]
    omega
theorem flatP_get : ∀ (L : List (Prt × Value)) (i j : Nat) (x : Prt × Value), L[i]? = some x → j < 6 → (flatP L)[i * 6 + j]? = (pcs x)[j]?
  | y :: r, 0, j, x, h, hj => by
    simp at h
    subst h
    show (pcs y ++ flatP r)[0 * 6 + j]? = _
    rw [List.getElem?_append_left (by simp [pcs]; omega)]
    simp
  | y :: r, i + 1, j, x, h, hj => by
    show (pcs y ++ flatP r)[(i + 1) * 6 + j]? = _
    rw [List.getElem?_append_right (by simp [pcs]; omega), show (i + 1) * 6 + j - (pcs y).length = i * 6 + j by simp [pcs]; omega]
    exact flatP_get r i j x (by simpa using h) hj

/-- The blocks that the words of parts lie in. -/
def InW (b : Nat) (X : Nat → Prop) (w : World) (k : Nat) : Prop := b < k ∧ k < w.heap.size ∧ ¬ X k
/-- The list at block b: its parts as they lie there, and the bytes; X: what may yet be written. -/
structure LSg (w : World) (b : Nat) (X : Nat → Prop) (L : List (Prt × Value)) (bs : List UInt8) (pv bv : Value) : Prop where
  blk : Blk w b 55 #[pv, bv]
  row : w.ownsRow (b + 1) 35 6 pv L.length (flatP L)
  own : OwnB w (b + 1) bv bs
  sub : ∀ x ∈ L, WAt w (InW b X w) x.2 x.1.sub
  xb : X b
  xp : ∀ k, pv.ownBlock = some k → X k
  xv : ∀ k, bv.ownBlock = some k → X k
  lo : ∀ k, X k → b ≤ k
  hi : ∀ k, X k → k < w.heap.size

theorem LSg.below {w w1 : World} {b : Nat} {X : Nat → Prop} {L : List (Prt × Value)} {bs : List UInt8} {pv bv : Value} (h : LSg w b X L bs pv bv) (hb : Below w.heap.size w w1) : LSg w1 b X L bs pv bv := by
  have hg : GrownS w w1 (fun _ => False) := grownS_of_below hb
  exact ⟨h.blk.grownS hg (fun e => e), own_grownS h.row hg (fun _ _ e => e), own_grownS h.own hg (fun _ _ e => e), fun x hx => (h.sub x hx).kept (fun k hk => hb.block k hk.2.1) (fun k hk => ⟨hk.1, Nat.lt_of_lt_of_le hk.2.1 hb.size, hk.2.2⟩), h.xb, h.xp, h.xv, h.lo, fun k hk => Nat.lt_of_lt_of_le (h.hi k hk) hb.size⟩
/-- The shape of the row's slice. -/
theorem LSg.pshape {w : World} {b : Nat} {X : Nat → Prop} {L : List (Prt × Value)} {bs : List UInt8} {pv bv : Value} (h : LSg w b X L bs pv bv) :
    ∃ ad cap, pv = .slice ad L.length cap ∧ ∀ (i : Nat) (x : Prt × Value), L[i]? = some x → ∃ g, ad = some ⟨g, 0, none⟩ ∧ g < w.heap.size ∧ X g ∧ b < g ∧ (∀ j, w.frozen? ⟨g, j, none⟩ = false) ∧ ∀ j u, (pcs x)[j]? = some u → j < 6 → w.cell? ⟨g, i * 6 + j, none⟩ = some u := by
  obtain ⟨h1, ⟨hv, h0⟩ | ⟨g, cap, cur, hv, hb, hg, _, _, _, htk⟩⟩ := h.row
  · refine ⟨none, 0, by rw [hv, h0], fun i x hi => ?_⟩
    have := (List.getElem?_eq_some_iff.1 hi).1
    omega
  · refine ⟨_, cap, hv, fun i x hi => ⟨g, rfl, (Array.getElem?_eq_some_iff.1 hg).1, h.xp g (by rw [hv]; rfl), by omega, fun j => Blk.frozen (show Blk w g 35 cur from hg) j, fun j u hu hj => ?_⟩⟩
    have hil := (List.getElem?_eq_some_iff.1 hi).1
    have hp := flatP_get L i j x hi hj
    rw [hu, ← htk, List.getElem?_take, if_pos (by omega)] at hp
    exact Blk.cell (show Blk w g 35 cur from hg) (i * 6 + j) (by simpa using hp)
theorem LSg.bshape {w : World} {b : Nat} {X : Nat → Prop} {L : List (Prt × Value)} {bs : List UInt8} {pv bv : Value} (h : LSg w b X L bs pv bv) : ∃ ad n cap, bv = .slice ad n cap := by
  obtain ⟨_, ⟨hv, _⟩ | ⟨g, cap, cur, hv, _⟩⟩ := h.own
  · exact ⟨_, _, _, hv⟩
  · exact ⟨_, _, _, hv⟩
theorem LSg.ne_pb {w : World} {b : Nat} {X : Nat → Prop} {L : List (Prt × Value)} {bs : List UInt8} {pv bv : Value} (h : LSg w b X L bs pv bv) {k : Nat} (hp : pv.ownBlock = some k) : bv.ownBlock ≠ some k := by
  obtain ⟨_, ⟨hv, _⟩ | ⟨g, cap, cur, hv, _, hg, _⟩⟩ := h.row
  · rw [hv] at hp; cases hp
  · rw [hv] at hp
    have : g = k := by simpa [Value.ownBlock] using hp
    subst this
    exact fun e => own_type h.own (show Blk w g 35 cur from hg) (by decide) e.symm
/-- A row's cell is written. -/
theorem own_set {w : World} {base e sz n cap g : Nat} {xs : List Value} (h : w.ownsRow base e sz (.slice (some ⟨g, 0, none⟩) n cap) n xs) (j : Nat) (x : Value) : (w.setCell ⟨g, j, none⟩ x).ownsRow base e sz (.slice (some ⟨g, 0, none⟩) n cap) n (xs.set j x) := by
  obtain ⟨h1, ⟨hv, h0⟩ | ⟨g', cap', cur, hv, hb, hg, h2, h3, h4, htk⟩⟩ := h
  · cases hv
  · cases hv
    refine ⟨by rw [List.length_set]; exact h1, .inr ⟨g, cap, cur.setIfInBounds j x, rfl, hb, Blk.set (show Blk w g e cur from hg) j x, h2, h3, by simpa using h4, ?_⟩⟩
    rw [Array.toList_setIfInBounds, ← htk, List.take_set]

/-- Behind the store of the bytes' slice nothing else has turned. -/
theorem LSg.setB {w w1 : World} {b : Nat} {X : Nat → Prop} {L : List (Prt × Value)} {bs bs1 : List UInt8} {pv bv bv1 : Value} (h : LSg w b X L bs pv bv) (hg : GrownS w w1 (fun k => some k = bv.ownBlock)) (ho : OwnB w1 (b + 1) bv1 bs1) (hx' : ∀ k, bv1.ownBlock = some k → bv.ownBlock = some k ∨ w.heap.size ≤ k) :
    LSg (w1.setCell ⟨b, 1, none⟩ bv1) b (fun k => X k ∨ bv1.ownBlock = some k) L bs1 pv bv1 ∧ GrownS w (w1.setCell ⟨b, 1, none⟩ bv1) X := by
  have hbv : some b ≠ bv.ownBlock := own_type h.own h.blk (by decide)
  have h1 := h.blk.grownS hg hbv
  have gs : GrownS w1 (w1.setCell ⟨b, 1, none⟩ bv1) (fun k => k = b) := GrownS.of (grown_setCell w1 ⟨b, 1, none⟩ _) (fun k e => by simpa using e)
  have hb1 : some b ≠ bv1.ownBlock := own_type ho h1 (by decide)
  have gx : GrownS w (w1.setCell ⟨b, 1, none⟩ bv1) X := (hg.mono (fun k _ e => h.xv k e.symm)).trans (gs.mono (fun k _ e => by rw [e]; exact h.xb))
  refine ⟨⟨?_, ?_, ?_, ?_, .inl h.xb, fun k hk => .inl (h.xp k hk), fun k hk => .inr hk, ?_, ?_⟩, gx⟩
  · have := h1.set 1 bv1
    simpa using this
  · refine own_grownS (own_grownS h.row hg (fun k hk e => h.ne_pb hk e.symm)) gs (fun k hk e => ?_)
    subst e
    exact own_type h.row h.blk (by decide) hk.symm
  · exact own_grownS ho gs (fun k hk e => hb1 (by rw [← e]; exact hk.symm))
  · intro x hx
    refine (h.sub x hx).kept (fun k hk => gx.block k hk.2.1 hk.2.2) (fun k hk => ⟨hk.1, Nat.lt_of_lt_of_le hk.2.1 gx.size, fun e => ?_⟩)
    rcases e with e | e
    · exact hk.2.2 e
    · rcases hx' k e with e | e
      · exact hk.2.2 (h.xv k e)
      · have := hk.2.1; omega
  · intro k hk
    rcases hk with hk | hk
    · exact h.lo k hk
    · have := (World.ownsRow.lt ho k hk).1; omega
  · intro k hk
    rcases hk with hk | hk
    · exact Nat.lt_of_lt_of_le (h.hi k hk) gx.size
    · have := (World.ownsRow.lt ho k hk).2; simpa using this
/-- One part more, behind the append and the stores. -/
theorem LSg.push {w wf : World} {b g cap : Nat} {X A : Nat → Prop} {L : List (Prt × Value)} {bs : List UInt8} {pv bv : Value} {x : Prt × Value} (h : LSg w b X L bs pv bv) (hb : Blk wf b 55 #[.slice (some ⟨g, 0, none⟩) (L.length + 1) cap, bv]) (hg : GrownS w wf (fun k => k = b ∨ some k = pv.ownBlock ∨ k = g)) (hat : pv.ownBlock = some g ∨ w.heap.size ≤ g)
    (ho : wf.ownsRow (b + 1) 35 6 (.slice (some ⟨g, 0, none⟩) (L.length + 1) cap) (L.length + 1) (flatP L ++ pcs x)) (hx : WAt w A x.2 x.1.sub) (hA : ∀ k, A k → InW b X w k) :
    LSg wf b (fun k => X k ∨ k = g) (L ++ [x]) bs (.slice (some ⟨g, 0, none⟩) (L.length + 1) cap) bv ∧ GrownS w wf X := by
  have hbl := h.blk.lt
  have hpv : some b ≠ pv.ownBlock := own_type h.row h.blk (by decide)
  have gx : GrownS w wf X := hg.mono (fun k hk e => by
    rcases e with e | e | e
    · rw [e]; exact h.xb
    · exact h.xp k e.symm
    · rcases hat with e' | e'
      · rw [e]; exact h.xp g e'
      · omega)
  have hin : ∀ k, InW b X w k → InW b (fun k => X k ∨ k = g) wf k := fun k hk => ⟨hk.1, Nat.lt_of_lt_of_le hk.2.1 gx.size, fun e => by
    rcases e with e | e
    · exact hk.2.2 e
    · rcases hat with e' | e'
      · exact hk.2.2 (by rw [e]; exact h.xp g e')
      · have := hk.2.1; omega⟩
  refine ⟨⟨hb, ?_, ?_, ?_, .inl h.xb, fun k hk => ?_, fun k hk => .inl (h.xv k hk), ?_, ?_⟩, gx⟩
  · rw [flatP_snoc, List.length_append]
    exact ho
  · refine own_grownS h.own hg (fun k hk e => ?_)
    rcases e with e | e | e
    · subst e
      exact own_type h.own h.blk (by decide) hk.symm
    · exact h.ne_pb e.symm hk
    · subst e
      rcases hat with e' | e'
      · exact h.ne_pb e' hk
      · have := (World.ownsRow.lt h.own k hk).2; omega
  · intro y hy
    rcases List.mem_append.1 hy with hy | hy
    · exact (h.sub y hy).kept (fun k hk => gx.block k hk.2.1 hk.2.2) hin
    · simp at hy
      subst hy
      exact hx.kept (fun k hk => gx.block k (hA k hk).2.1 (hA k hk).2.2) (fun k hk => hin k (hA k hk))
  · have : g = k := by simpa [Value.ownBlock] using hk
    exact .inr this.symm
  · intro k hk
    rcases hk with hk | hk
    · exact h.lo k hk
    · subst hk
      rcases hat with e | e
      · exact h.lo k (h.xp k e)
      · omega
  · intro k hk
    rcases hk with hk | hk
    · exact Nat.lt_of_lt_of_le (h.hi k hk) gx.size
    · have := (World.ownsRow.lt ho g rfl).2
      subst hk
      exact this

/-- Six cells, one behind the other, are written. -/
def T6 (w : World) (g o : Nat) (x0 x1 x2 x3 x4 x5 : Value) : World :=
  (((((w.setCell ⟨g, o, none⟩ x0).setCell ⟨g, o + 1, none⟩ x1).setCell ⟨g, o + 2, none⟩ x2).setCell ⟨g, o + 3, none⟩ x3).setCell ⟨g, o + 4, none⟩ x4).setCell ⟨g, o + 5, none⟩ x5
theorem T6_grown (w : World) (g o : Nat) (x0 x1 x2 x3 x4 x5 : Value) : GrownS w (T6 w g o x0 x1 x2 x3 x4 x5) (fun k => k = g) := by
  have h : ∀ (w : World) j v, GrownS w (w.setCell ⟨g, j, none⟩ v) (fun k => k = g) := fun w j v => GrownS.of (grown_setCell w ⟨g, j, none⟩ v) (fun k e => by simpa using e)
  exact (((((h _ _ _).trans (h _ _ _)).trans (h _ _ _)).trans (h _ _ _)).trans (h _ _ _)).trans (h _ _ _)
theorem T6_own {w : World} {base e n cap g o : Nat} {xs : List Value} {z0 z1 z2 z3 z4 z5 : Value} (h : w.ownsRow base e 6 (.slice (some ⟨g, 0, none⟩) n cap) n (xs ++ [z0, z1, z2, z3, z4, z5])) (ho : xs.length = o) (x0 x1 x2 x3 x4 x5 : Value) :
    (T6 w g o x0 x1 x2 x3 x4 x5).ownsRow base e 6 (.slice (some ⟨g, 0, none⟩) n cap) n (xs ++ [x0, x1, x2, x3, x4, x5]) := by
  have := own_set (own_set (own_set (own_set (own_set (own_set h o x0) (o + 1) x1) (o + 2) x2) (o + 3) x3) (o + 4) x4) (o + 5) x5
  have e : ∀ (ys : List Value) (j : Nat) (v : Value), (xs ++ ys).set (o + j) v = xs ++ ys.set j v := fun ys j v => by
    rw [List.set_append_right _ _ (by omega), ho, Nat.add_sub_cancel_left]
  have e0 : ∀ (ys : List Value) (v : Value), (xs ++ ys).set o v = xs ++ ys.set 0 v := fun ys v => e ys 0 v
  simp only [e0, e, List.set_cons_zero, List.set_cons_succ] at this
  exact this
theorem own_cell {w : World} {base e n cap g sz : Nat} {xs : List Value} (h : w.ownsRow base e sz (.slice (some ⟨g, 0, none⟩) n cap) n xs) {j : Nat} {u : Value} (hu : xs[j]? = some u) : w.cell? ⟨g, j, none⟩ = some u ∧ w.frozen? ⟨g, j, none⟩ = false := by
  obtain ⟨h1, ⟨hv, h0⟩ | ⟨g', cap', cur, hv, hb, hg, h2, h3, h4, htk⟩⟩ := h
  · cases hv
  · cases hv
    refine ⟨Blk.cell (show Blk w g e cur from hg) j ?_, Blk.frozen (show Blk w g e cur from hg) j⟩
    rw [← htk, List.getElem?_take] at hu
    split at hu
    · simpa using hu
    · cases hu
/-- A part in a block of its own. -/
def Box (w : World) (q : Nat) (p : Prt) (v : Value) : Prop := Blk w q 35 #[.int .i64 p.kind, .string (BA p.text), .bool p.quote, .int .i64 p.op, .bool p.colon, v]
theorem Box.six {w : World} {q : Nat} {p : Prt} {v : Value} (h : Box w q p v) : w.cell? ⟨q, 0, none⟩ = some (.int .i64 p.kind) ∧ w.cell? ⟨q, 1, none⟩ = some (.string (BA p.text)) ∧ w.cell? ⟨q, 2, none⟩ = some (.bool p.quote) ∧ w.cell? ⟨q, 3, none⟩ = some (.int .i64 p.op) ∧ w.cell? ⟨q, 4, none⟩ = some (.bool p.colon) ∧ w.cell? ⟨q, 5, none⟩ = some v :=
  ⟨Blk.cell h 0 rfl, Blk.cell h 1 rfl, Blk.cell h 2 rfl, Blk.cell h 3 rfl, Blk.cell h 4 rfl, Blk.cell h 5 rfl⟩

/-- Where a string's bytes are appended: in the old row, or in a new block. -/
theorem append_str_at {P : Program} (w : World) (base : Nat) (t u ty e : TypeId) (i : TypeInfo) (ht : P.underlying t = some (.slice e)) (hu : P.underlying u = some .string) (hi : P.info? e = some i) (hz : i.zero = some (.int .u8 0))
    (hsize : i.size = 1) (hby : i.bytes = 1) (v : Value) (n : Nat) (xs : List Value) (hown : w.ownsRow base e 1 v n xs) (s : ByteArray) (h63 : n + s.size ≤ maxLen) (hbytes : n + s.size ≤ 140737488355328) {v' : Value} {w' : World}
    (hr : (Builtin.append_ #[t, u] ty #[v, .string s]).run P w = .ok v' w') : ∀ k, v'.ownBlock = some k → v.ownBlock = some k ∨ w.heap.size ≤ k := by
  have hsmall : n + s.size ≤ 9223372036854775807 := by simp only [maxLen] at h63; omega
  have hxl : xs.length = n := by simpa using hown.1
  rcases hown.2 with ⟨rfl, rfl⟩ | ⟨g, cap, cur, rfl, hbg, hg, hnc, hcm, hcs, htake⟩
  · by_cases hm : s.size = 0
    · have hf := Lib.run_firstCells_string (P := P) w 1 s
      rw [hm] at hf
      simp [Builtin.append_, run_underlying ht, run_underlying hu, sizeOf, typeInfo, hi, hsize, Builtin.lenOf, hm, hf] at hr
      rw [← hr.1]
      intro k hk
      cases hk
    · have hr2 := run_append_nil_string (P := P) w t u ty e i (.int .u8 0) ht hu hi hz s (by omega) (by omega) (by rw [hby]; omega)
      rw [hr2] at hr
      cases hr
      intro k hk
      exact .inr (by simp [Value.ownBlock] at hk; omega)
  · by_cases hroom : n + s.size ≤ cap
    · have hcs' : cur.size = cap := by simpa using hcs
      have hr2 := Lib.run_append_room_string (P := P) w t u ty e i ht hu hi hsize g n cap cur hg s hroom (by omega)
      rw [hr2] at hr
      cases hr
      intro k hk
      exact .inl hk
    · have holds : ∀ j u, xs[j]? = some u → w.cell? ((⟨g, 0, none⟩ : Addr).add j) = some u := World.ownsRow.cells (g := g) ⟨hown.1, .inr ⟨g, cap, cur, rfl, hbg, hg, hnc, hcm, hcs, htake⟩⟩ rfl
      have hr2 := Lib.run_append_grow_string (P := P) w t u ty e i (.int .u8 0) ht hu hi hz ⟨g, 0, none⟩ n cap xs (by rw [hsize]; simpa using hxl) holds s (by omega) (by omega) (by rw [hby]; exact growslice_fits (by omega) (by omega))
      rw [hr2] at hr
      cases hr
      intro k hk
      exact .inr (by simp [Value.ownBlock] at hk; omega)
/-- The step of a drawing region that appends a string's bytes. -/
theorem step_append_str {P : Program} {w : World} {ops : Array Oper} {o : Oper} {a : Act} {K : Act → World → Prop} {Q : Exit → Act → World → Prop} {E : Prop} (hgd : o.guard = none) (sl x : Operand) (t u : TypeId)
    (ho : o.op = .call { callee := .builtin .append, args := #[sl, x], argTypes := #[t, u] })
    (base : Nat) (e : TypeId) (i : TypeInfo) (ht : P.underlying t = some (.slice e)) (hu : P.underlying u = some .string) (hi : P.info? e = some i) (hz : i.zero = some (.int .u8 0))
    (hsize : i.size = 1) (hby : i.bytes = 1)
    (v : Value) (n : Nat) (xs : List Value) (hs : a.eval sl = v) (hown : w.ownsRow base e 1 v n xs) (s : ByteArray) (hx : a.eval x = .string s)
    (h63 : n + s.size ≤ maxLen) (hbytes : n + s.size ≤ 140737488355328) (hbase : base ≤ w.heap.size)
    (h : ∀ v' w', w'.ownsRow base e 1 v' (n + s.size) (xs ++ Lib.strCells s) → w.grownBy w' v.ownBlock → (∀ k, v'.ownBlock = some k → v.ownBlock = some k ∨ w.heap.size ≤ k) → K (a.put o.dst v') w') :
    if Region.wanted o (yielded ops a.tmps) = true then Oper.wp P o a w K Q else E := by
  have hw : Region.wanted o (yielded ops a.tmps) = true := by simp [Region.wanted, hgd]
  rw [if_pos hw]
  obtain ⟨v', w', hr, h2, h3, h4⟩ := Lib.run_append_own_string (P := P) w base t u o.type e i ht hu hi hz hsize hby v n xs hown s h63 hbytes hbase
  have h5 := append_str_at (P := P) w base t u o.type e i ht hu hi hz hsize hby v n xs hown s h63 hbytes hr
  unfold Oper.wp execOp
  simp only [ho, resolve, invoke, builtin, Sem.run_bind, Sem.run_pure, Result.andThen_ok, List.map_toArray, List.map_cons, List.map_nil, hs, hx, hr]
  exact h v' w' h2 h3 h5
theorem six_cells {w : World} {t : TypeId} {a0 a1 a2 a3 a4 a5 : Value} : ∀ j u, [a0, a1, a2, a3, a4, a5][j]? = some u → ((w.alloc (.cells #[a0, a1, a2, a3, a4, a5] t)).drew).cell? ((⟨w.heap.size, 0, none⟩ : Addr).add j) = some u := by
  intro j u hj
  rw [add_at]
  have hb : Blk (w.alloc (.cells #[a0, a1, a2, a3, a4, a5] t)) w.heap.size t #[a0, a1, a2, a3, a4, a5] := Blk.new w t _
  exact Blk.cell (hb.kept (w' := (w.alloc (.cells #[a0, a1, a2, a3, a4, a5] t)).drewN 1) (grown_drewN _ 1) (by simp)) j (by simpa using hj)
theorem zero_is : ∀ u ∈ [Value.int .i64 0, .string ⟨#[]⟩, .bool false, .int .i64 0, .bool false, .slice none 0 0], u.oneCell' = true := by
  intro u hu
  simp at hu
  rcases hu with rfl | rfl | rfl | rfl | rfl | rfl <;> rfl
theorem und_word : Tryd.prog.underlying 23 = some (.slice 35) := by kernel_rfl
theorem info_part : (Tryd.prog.info? 35).map (fun i => (i.zero, i.size, i.bytes)) = some (some (.agg #[.int .i64 0, .string ⟨#[]⟩, .bool false, .int .i64 0, .bool false, .slice none 0 0]), 6, 72) := by kernel_rfl

end Go.Proofs.YtodcfgbcigjjfaaDoor
