/-
  SplitKeeps: of all bytes just those of ifs in what may be split are left out.
-/
import Derived.Test.YtpljphbaibncjaaSWhole
namespace Go.Proofs.Ytpljphbaibncjaa
open Go.RowKit

def keepT (ifs : List UInt8) (q s : Bool) (t : List UInt8) : Fd := qt q (t.filter fun c => q || !s || !hasB ifs c)
def keepP (ifs : List UInt8) (p : Pc) : Fd := if p.b then [] else keepT ifs p.q p.s p.text
def keepL (ifs : List UInt8) (l : List Pc) : Fd := l.flatMap (keepP ifs)
def totS (s : SS) : Fd := s.out.flatten ++ s.made
def okS (s : SS) : Prop := s.there = false → s.made = []
theorem tot_end (s : SS) : totS (endS s) = totS s ∧ okS (endS s) := ⟨by simp [totS, endS], fun _ => rfl⟩
theorem tot_byte (ifs : List UInt8) (s : SS) (c : UInt8) (h : okS s) : totS (byteS ifs s c) = totS s ++ keepT ifs false true [c] ∧ okS (byteS ifs s c) := by
  have hk : (hasB ifs c = true ↔ kindB ifs c ≠ 0) := by
    unfold hasB kindB
    cases ifs.contains c with
    | true =>
      simp only [if_true, true_iff]
      split <;> decide
    | false => simp
  unfold byteS
  split
  · next h1 =>
    have hb : hasB ifs c = true := hk.2 (by rw [h1]; decide)
    rw [show keepT ifs false true [c] = [] by simp [keepT, hb, qt], List.append_nil]
    unfold softS
    split
    · exact ⟨(tot_end s).1, fun _ => rfl⟩
    · exact ⟨rfl, h⟩
  · split
    · next h1 =>
      have hb : hasB ifs c = true := hk.2 (by rw [h1]; decide)
      rw [show keepT ifs false true [c] = [] by simp [keepT, hb, qt], List.append_nil]
      unfold hardS
      split
      · exact ⟨rfl, h⟩
      · exact ⟨(tot_end s).1, fun _ => rfl⟩
    · next h1 h2 =>
      have hb : hasB ifs c = false := by
        cases hh : hasB ifs c with
        | false => rfl
        | true =>
          have := hk.1 hh
          rcases kindB_is ifs c with e | e | e
          · exact absurd e this
          · exact absurd e h1
          · exact absurd e h2
      refine ⟨?_, fun e => by cases e⟩
      rw [show keepT ifs false true [c] = qt false [c] by simp [keepT, hb]]
      simp [totS, addS]
theorem keepT_app (ifs : List UInt8) (q s : Bool) (a b : List UInt8) : keepT ifs q s (a ++ b) = keepT ifs q s a ++ keepT ifs q s b := by simp [keepT, qt]
theorem tot_bytes (ifs : List UInt8) : ∀ (t : List UInt8) (s : SS), okS s → totS (t.foldl (byteS ifs) s) = totS s ++ keepT ifs false true t ∧ okS (t.foldl (byteS ifs) s)
  | [], s, h => by simp [keepT, qt]; exact h
  | c :: t, s, h => by
    obtain ⟨h1, h2⟩ := tot_byte ifs s c h
    obtain ⟨h3, h4⟩ := tot_bytes ifs t _ h2
    refine ⟨?_, h4⟩
    rw [List.foldl_cons, h3, h1, List.append_assoc, ← keepT_app]
    rfl
theorem tot_close (s : SS) (h : okS s) : (closeS s).out.flatten = totS s := by
  unfold closeS
  cases hb : s.there with
  | true => simp [endS, totS]
  | false => simp [totS, h hb]
theorem tot_piece (ifs : List UInt8) (s : SS) (p : Pc) (h : okS s) : totS (pieceS ifs s p) = totS s ++ keepP ifs p ∧ okS (pieceS ifs s p) := by
  obtain ⟨tx, q, sp, b⟩ := p
  unfold pieceS keepP
  cases b with
  | true =>
    simp only [if_true, List.append_nil]
    refine ⟨?_, ?_⟩
    · show totS (closeS s) = _
      unfold closeS
      split
      · exact (tot_end s).1
      · rfl
    · show okS (closeS s)
      unfold closeS
      split
      · exact (tot_end s).2
      · exact h
  | false =>
    simp only [Bool.false_eq_true, if_false]
    split
    · next hq =>
      refine ⟨?_, fun e => by cases e⟩
      have : keepT ifs q sp tx = qt q tx := by
        unfold keepT
        congr 1
        rw [List.filter_eq_self]
        intro c _
        cases q <;> cases sp <;> simp_all
      rw [this]
      simp [totS, addS]
    · next hq =>
      cases q with
      | true => simp at hq
      | false =>
        cases sp with
        | true => exact tot_bytes ifs tx s h
        | false =>
          cases tx with
          | nil => simp [keepT, qt]; exact h
          | cons x r => simp at hq
theorem tot_run (ifs : List UInt8) : ∀ (l : List Pc) (s : SS), okS s → totS (l.foldl (pieceS ifs) s) = totS s ++ keepL ifs l ∧ okS (l.foldl (pieceS ifs) s)
  | [], s, h => by simp [keepL]; exact h
  | p :: l, s, h => by
    obtain ⟨h1, h2⟩ := tot_piece ifs s p h
    obtain ⟨h3, h4⟩ := tot_run ifs l _ h2
    refine ⟨?_, h4⟩
    rw [List.foldl_cons, h3, h1, List.append_assoc]
    rfl
theorem keeps_all (ifs : List UInt8) (l : List Pc) : (fieldsL ifs l).flatten = keepL ifs l := by
  obtain ⟨h1, h2⟩ := tot_run ifs l ss0 (fun _ => rfl)
  unfold fieldsL runS
  rw [tot_close _ h2, h1]
  rfl
theorem keepP_len (ifs : List UInt8) (p : Pc) : (keepP ifs p).length ≤ p.text.length := by
  unfold keepP keepT
  split
  · simp
  · rw [qt_len]; exact List.length_filter_le _ _
theorem keepT_len (ifs : List UInt8) (q s : Bool) (t : List UInt8) : (keepT ifs q s t).length ≤ t.length := by
  unfold keepT
  rw [qt_len]
  exact List.length_filter_le _ _
theorem keepL_len (ifs : List UInt8) (M : Nat) : ∀ l : List Pc, (∀ p ∈ l, p.text.length ≤ M) → (keepL ifs l).length ≤ l.length * M
  | [], _ => by simp [keepL]
  | p :: l, h => by
    have h1 := keepL_len ifs M l (fun x hx => h x (by simp [hx]))
    have h2 := h p (by simp)
    have h3 := keepP_len ifs p
    show (keepP ifs p ++ keepL ifs l).length ≤ (l.length + 1) * M
    rw [List.length_append, Nat.add_mul]
    omega
theorem keep_one {ifs : List UInt8} {q s : Bool} {c : UInt8} (h : q = true ∨ s = false ∨ hasB ifs c = false) : keepT ifs q s [c] = [(c, q)] := by
  have : (q || !s || !hasB ifs c) = true := by rcases h with h | h | h <;> simp [h]
  unfold keepT
  rw [List.filter_cons, this]
  rfl
theorem keep_none {ifs : List UInt8} {c : UInt8} (h : hasB ifs c = true) : keepT ifs false true [c] = [] := by
  unfold keepT
  rw [List.filter_cons, h]
  rfl
theorem keep_take {ifs : List UInt8} {l : List Pc} {k : Nat} {p : Pc} (h : l[k]? = some p) : keepL ifs (l.take (k + 1)) = keepL ifs (l.take k) ++ keepP ifs p := by
  unfold keepL
  rw [List.take_add_one, h, List.flatMap_append]
  simp

/-- A field at block b that grows. -/
structure KI (w wr : World) (b : Nat) (tx : List UInt8) (ql : List Bool) : Prop where
  own : ∃ qv, Blk wr b 34 #[.string (BA tx), qv] ∧ OwnQ wr w.heap.size qv ql
  below : Below w.heap.size w wr
  lo : w.heap.size ≤ b
theorem KI.kept {w wr w1 : World} {b : Nat} {tx : List UInt8} {ql : List Bool} (h : KI w wr b tx ql) (hb : Below wr.heap.size wr w1) : KI w w1 b tx ql := by
  obtain ⟨⟨qv, h1, h2⟩, h3, h4⟩ := h
  exact ⟨⟨qv, h1.below hb h1.lt, own_grownS (S := fun _ => False) h2 (grownS_of_below hb) (fun _ _ e => e)⟩, h3.trans (hb.mono h3.size), h4⟩
theorem KI.text {w wr : World} {b : Nat} {tx : List UInt8} {ql : List Bool} (h : KI w wr b tx ql) (t' : List UInt8) : KI w (wr.setCell ⟨b, 0, none⟩ (.string (BA t'))) b t' ql := by
  obtain ⟨⟨qv, h1, h2⟩, h3, h4⟩ := h
  have gs := setb_grown wr b 0 (.string (BA t'))
  refine ⟨⟨qv, ?_, own_grownS h2 gs (fun k hk e => own_type h2 h1 (by decide) (by rw [← e]; exact hk.symm))⟩, h3.trans (gs.below h3.size (fun k e => by rw [e]; exact h4)), h4⟩
  have := h1.set 0 (.string (BA t'))
  simpa using this
theorem KI.new (w wr : World) (hb : Below w.heap.size w wr) : KI w (wr.alloc (.cells #[.string ⟨#[]⟩, .slice none 0 0] 34)) wr.heap.size [] [] :=
  ⟨⟨_, Blk.new _ _ _, ownQ_nil _ _⟩, hb.alloc hb.size _, hb.size⟩
theorem KI.blk0 {w wr : World} {b : Nat} {tx : List UInt8} {ql : List Bool} (h : KI w wr b tx ql) : ∃ qv, Blk wr b 34 #[.string (BA tx), qv] ∧ OwnQ wr w.heap.size qv ql := h.own
/-- Another field at block b that grows, of the old blocks the only one. -/
structure GI (W2 wr : World) (b : Nat) (tx : List UInt8) (ql : List Bool) : Prop where
  own : ∃ qv, Blk wr b 34 #[.string (BA tx), qv] ∧ OwnQ wr W2.heap.size qv ql
  grown : GrownS W2 wr (fun k => k = b)
  lt : b < W2.heap.size
theorem GI.kept {W2 wr w1 : World} {b : Nat} {tx : List UInt8} {ql : List Bool} (h : GI W2 wr b tx ql) (hb : Below wr.heap.size wr w1) : GI W2 w1 b tx ql := by
  obtain ⟨⟨qv, h1, h2⟩, h3, h4⟩ := h
  exact ⟨⟨qv, h1.below hb h1.lt, own_grownS (S := fun _ => False) h2 (grownS_of_below hb) (fun _ _ e => e)⟩, h3.trans (grownS_of_below hb), h4⟩
theorem GI.text {W2 wr : World} {b : Nat} {tx : List UInt8} {ql : List Bool} (h : GI W2 wr b tx ql) (t' : List UInt8) : GI W2 (wr.setCell ⟨b, 0, none⟩ (.string (BA t'))) b t' ql := by
  obtain ⟨⟨qv, h1, h2⟩, h3, h4⟩ := h
  have gs := setb_grown wr b 0 (.string (BA t'))
  refine ⟨⟨qv, ?_, own_grownS h2 gs (fun k hk e => own_type h2 h1 (by decide) (by rw [← e]; exact hk.symm))⟩, h3.trans gs, h4⟩
  have := h1.set 0 (.string (BA t'))
  simpa using this
theorem GI.push {W2 w4 w5 : World} {b : Nat} {tx : List UInt8} {ql ql' : List Bool} {gv v5 : Value} (h : GI W2 w4 b tx ql) (hv : Blk w4 b 34 #[.string (BA tx), gv] ∧ OwnQ w4 W2.heap.size gv ql) (hg : GrownS w4 w5 (fun k => some k = gv.ownBlock)) (ho : OwnQ w5 W2.heap.size v5 ql') :
    GI W2 (w5.setCell ⟨b, 1, none⟩ v5) b tx ql' := by
  have k1 := hv.1.grownS hg (own_type hv.2 hv.1 (by decide))
  have gs := setb_grown w5 b 1 v5
  have h1 : GI W2 (w5.setCell ⟨b, 1, none⟩ v5) b tx ql' := by
    refine ⟨⟨v5, ?_, own_grownS ho gs (fun k hk e => own_type ho k1 (by decide) (by rw [← e]; exact hk.symm))⟩, ⟨gs.os.trans (hg.os.trans h.grown.os), gs.tape.trans (hg.tape.trans h.grown.tape), gs.output.trans (hg.output.trans h.grown.output), Nat.le_trans h.grown.size (Nat.le_trans hg.size gs.size), fun k hk hn => ?_⟩, h.lt⟩
    · have := k1.set 1 v5
      simpa using this
    · have hk4 := Nat.lt_of_lt_of_le hk h.grown.size
      rw [gs.block k (Nat.lt_of_lt_of_le hk4 hg.size) hn, hg.block k hk4 (fun e => ?_), h.grown.block k hk hn]
      have := (World.ownsRow.lt hv.2 k e.symm).1
      omega
  exact h1
theorem run_append_zero {P : Program} {w : World} (base : Nat) (t ty e : TypeId) (i : TypeInfo) (size : Nat) (ht : P.underlying t = some (.slice e)) (hi : P.info? e = some i)
    (v : Value) (n : Nat) (xs : List Value) (hown : w.ownsRow base e size v n xs) (a : Option Addr) (c : Nat) : (Builtin.append_ #[t, t] ty #[v, .slice a 0 c]).run P w = .ok v w := by
  rcases hown.2 with ⟨rfl, rfl⟩ | ⟨g, cap, cur, rfl, _, _, hnc, _⟩
  · cases a <;> simp [Builtin.append_, run_underlying ht, sizeOf, typeInfo, hi, Builtin.lenOf, Builtin.firstCells, loadCells, loadCellsFrom]
  · cases a <;> simp [Builtin.append_, run_underlying ht, sizeOf, typeInfo, hi, Builtin.lenOf, Builtin.firstCells, hnc, storeCells, loadCells, loadCellsFrom]
/-- append of a slice of bools, of whatever length, at a step of a region that draws. -/
theorem step_append_q {ops : Array Oper} {o : Oper} {a : Act} {w : World} {K : Act → World → Prop} {Q : Exit → Act → World → Prop} {E : Prop} (hgd : o.guard = none) (s x : Operand)
    (ho : o.op = .call { callee := .builtin .append, args := #[s, x], argTypes := #[32, 32] }) (base : Nat) (v : Value) (l : List Bool) (hs : a.eval s = v) (hown : OwnQ w base v l) (y : Value) (r : List Bool) (hx : a.eval x = y) (hq : QRow w y r)
    (hl : l.length + r.length ≤ 1000000) (hbase : base ≤ w.heap.size) (h : ∀ v' w', OwnQ w' base v' (l ++ r) → w.grownBy w' v.ownBlock → K (a.put o.dst v') w') :
    if Region.wanted o (yielded ops a.tmps) = true then Oper.wp Try.prog o a w K Q else E := by
  have hw : Region.wanted o (yielded ops a.tmps) = true := by simp [Region.wanted, hgd]
  rw [if_pos hw]
  obtain ⟨i1, hbi, hy0, hy1, hy2⟩ := info_of info_bool
  obtain ⟨ad, cap, rfl, hc⟩ := hq
  cases r with
  | nil =>
    have hr := run_append_zero (P := Try.prog) base 32 o.type 4 i1 1 und_bools hbi v l.length (l.map Value.bool) hown ad cap
    unfold Oper.wp execOp
    simp only [ho, resolve, invoke, builtin, Sem.run_bind, Sem.run_pure, Result.andThen_ok, List.map_toArray, List.map_cons, List.map_nil, hs, hx, List.length_nil, hr]
    exact h v w (by rw [List.append_nil]; exact hown) ⟨rfl, rfl, rfl, Nat.le_refl _, fun _ _ _ => rfl⟩
  | cons b r =>
    obtain ⟨g, rfl, _, _⟩ := hc 0 b rfl
    refine wp_append_lies w s x 32 ho base 4 i1 (.bool false) 1 1 und_bools hbi hy0 hy1 hy2 rfl (by decide) v l.length (l.map Value.bool) hs hown ⟨g, 0, none⟩ (b :: r).length cap ((b :: r).map Value.bool) hx (by simp) (fun j u hu => ?_) (fun u hu => ?_) (by simp) (by unfold maxLen; omega) (by omega) hbase w.heap.size rfl ?_
    · rw [List.getElem?_map] at hu
      obtain ⟨z, hz, rfl⟩ := Option.map_eq_some_iff.1 hu
      obtain ⟨g', e, _, hcell⟩ := hc j z hz
      cases e
      rw [add_at]
      exact hcell
    · obtain ⟨z, _, rfl⟩ := List.mem_map.1 hu
      rfl
    · intro g' cap' w' h1 h2 _ _
      exact h _ w' (own_pushQ rfl rfl h1) h2
theorem frow_two (w : World) (F : Fd) (q1 q2 : Value) (h1 : QRow w q1 (fqs F)) (h2 : QRow w q2 (fqs F)) : FRow (w.alloc (.cells #[.string (BA (ftx F)), q1, .string (BA (ftx F)), q2] 34)) (.slice (some ⟨w.heap.size, 0, none⟩) 2 2) [F, F] := by
  have hb := Blk.new w 34 #[.string (BA (ftx F)), q1, .string (BA (ftx F)), q2]
  refine ⟨_, 2, rfl, fun i x hi => ?_⟩
  match i, hi with
  | 0, hi =>
    simp at hi
    subst hi
    exact ⟨w.heap.size, q1, rfl, hb.lt, hb.cell 0 rfl, hb.cell 1 rfl, h1.below ((Below.refl _ _).alloc (Nat.le_refl _) _)⟩
  | 1, hi =>
    simp at hi
    subst hi
    exact ⟨w.heap.size, q2, rfl, hb.lt, hb.cell 2 rfl, hb.cell 3 rfl, h2.below ((Below.refl _ _).alloc (Nat.le_refl _) _)⟩
theorem plain_two (v : Value) (F : Fd) (w : World) (h : FRow w v [F, F]) : Calls Try.prog 10 #[v] w fun e w' => ∃ g c q1 q2, e = .returned (.slice (some ⟨g, 0, none⟩) 2 c) ∧ g < w'.heap.size ∧ w'.cell? ⟨g, 0, none⟩ = some (.string (BA (ftx F))) ∧ w'.cell? ⟨g, 1, none⟩ = some q1 ∧ w'.cell? ⟨g, 2, none⟩ = some (.string (BA (ftx F))) ∧ w'.cell? ⟨g, 3, none⟩ = some q2 ∧ QRow w' q1 (fqs F) ∧ QRow w' q2 (fqs F) ∧ Below w.heap.size w w' := by
  refine (plain_any v [F, F] w h (by simp)).mono fun e w' ⟨u, h1, h2, ad, cap, h3, h4⟩ => ?_
  obtain ⟨g, q, rfl, hg, c0, c1, hq⟩ := h4 0 F rfl
  obtain ⟨g', q', e', _, c2, c3, hq'⟩ := h4 1 F rfl
  cases e'
  subst h3
  exact ⟨g, cap, q, q', h1, hg, c0, c1, c2, c3, hq, hq', h2⟩
theorem keeps_push {w w3 w1 : World} {bw bp g cap : Nat} {tx : List UInt8} {f : Fd} {c : UInt8} {q : Bool} {wv : Value} {cs : Array Value} (h : KI w w3 bw tx (fqs f)) (hv : Blk w3 bw 34 #[.string (BA tx), wv] ∧ OwnQ w3 w.heap.size wv (fqs f)) (hp : Blk w3 bp 42 cs) (hne : bp ≠ bw)
    (hown : w1.ownsRow w.heap.size 4 1 (.slice (some ⟨g, 0, none⟩) ((fqs f).length + 1) cap) ((fqs f).length + 1) ((fqs f).map Value.bool ++ [.bool q])) (hgr : (w3.alloc (.cells #[.bool q] 4)).grownBy w1 wv.ownBlock) :
    w1.cell? ⟨bw, 1, none⟩ = some wv ∧ w1.frozen? ⟨bw, 1, none⟩ = false ∧ KI w (w1.setCell ⟨bw, 1, none⟩ (.slice (some ⟨g, 0, none⟩) ((fqs f).length + 1) cap)) bw tx (fqs (f ++ [(c, q)])) ∧ Blk (w1.setCell ⟨bw, 1, none⟩ (.slice (some ⟨g, 0, none⟩) ((fqs f).length + 1) cap)) bp 42 cs := by
  have g1 : GrownS w3 w1 (fun k => some k = wv.ownBlock) := (GrownS.of (World.grownBy_alloc w3 _ none) (by simp)).trans (GrownS.of hgr (fun _ e => e))
  have k1 := hv.1.grownS g1 (own_type hv.2 hv.1 (by decide))
  have p1 := hp.grownS g1 (own_type hv.2 hp (by decide))
  have gs := setb_grown w1 bw 1 (.slice (some ⟨g, 0, none⟩) ((fqs f).length + 1) cap)
  have ho : OwnQ w1 w.heap.size (.slice (some ⟨g, 0, none⟩) ((fqs f).length + 1) cap) (fqs f ++ [q]) := own_pushQ (by simp) rfl hown
  refine ⟨k1.cell 1 rfl, k1.frozen 1, ⟨⟨.slice (some ⟨g, 0, none⟩) ((fqs f).length + 1) cap, ?_, ?_⟩, ?_, h.lo⟩, p1.grownS gs hne⟩
  · have := k1.set 1 (.slice (some ⟨g, 0, none⟩) ((fqs f).length + 1) cap)
    simpa using this
  · rw [fqs_app]
    exact own_grownS ho gs (fun k hk e => own_type ho k1 (by decide) (by rw [← e]; exact hk.symm))
  · have s1 := g1.size
    exact (h.below.trans (g1.below h.below.size (fun k e => (World.ownsRow.lt hv.2 k e.symm).1))).trans (gs.below (Nat.le_trans h.below.size s1) (fun k e => by rw [e]; exact h.lo))

set_option maxRecDepth 100000 in
set_option maxHeartbeats 8000000 in
theorem keeps_walk (v : Value) (L : List Pc) (ifs : List UInt8) (w : World) (h : PRow w v L) : Calls Try.prog 5 #[v, .string (BA ifs)] w fun e w' => e = .returned (.bool true) ∧ Below w.heap.size w w' := by
  obtain ⟨i1, hbi, hy0, hy1, hy2⟩ := info_of info_bool
  have HAW : Hid (∀ W, Below w.heap.size w W → Calls Try.prog 9 #[] W fun e w' => e = .returned (.bool true) ∧ Below w.heap.size w w' ∧ Below W.heap.size W w') := hide (fun W hW => (awake_any W).mono (fun e w' ⟨h1, h2⟩ => ⟨h1, hW.trans (h2.mono hW.size), h2⟩))
  have HFW := hide (few_any v L w h)
  have HRW := hide h
  obtain ⟨ad, cap, rfl, hp⟩ := h
  obtain ⟨N, hN⟩ : ∃ N, N = L.length := ⟨_, rfl⟩
  rw [← hN] at HFW ⊢
  have HN := hide hN
  have HP : Hid (∀ (i : Nat) (x : Pc), L[i]? = some x → ∃ g o, ad = some ⟨g, o, none⟩ ∧ ∀ wr, Below w.heap.size w wr → 
    wr.cell? ⟨g, o + i * 4, none⟩ = some (.string (BA x.text)) ∧ wr.cell? ⟨g, o + i * 4 + 1, none⟩ = some (.bool x.q) ∧ wr.cell? ⟨g, o + i * 4 + 2, none⟩ = some (.bool x.s) ∧ wr.cell? ⟨g, o + i * 4 + 3, none⟩ = some (.bool x.b)) := hide (fun i x hi => by
      obtain ⟨g, o, e, hg, c0, c1, c2, c3⟩ := hp i x hi
      exact ⟨g, o, e, fun wr hb => ⟨(hb.cell (p := ⟨g, _, none⟩) hg).trans c0, (hb.cell (p := ⟨g, _, none⟩) hg).trans c1, (hb.cell (p := ⟨g, _, none⟩) hg).trans c2, (hb.cell (p := ⟨g, _, none⟩) hg).trans c3⟩⟩)
  clear hp
  cases hfw : fewB L with
  | false =>
    rw [hfw] at HFW
    clear hfw hN
    go_enter Try.func5, Try.ntmps5
    go_wp2_with fail
    refine (unhide HFW).mono ?_
    rintro e w1 ⟨rfl, hw1⟩
    rw [show w1 = w from hw1]
    clear hw1
    go_wp2_with fail
    refine (unhide HAW _ (Below.refl _ _)).mono ?_
    rintro e w2 ⟨rfl, b2, _⟩
    have HB2 := hide b2
    clear b2
    go_wp2
    go_ret
    exact ⟨rfl, unhide HB2⟩
  | true =>
    rw [hfw] at HFW
    have hN30 : N ≤ 30 := by have := (few_is hfw).1; omega
    have HFI := hide (few_is hfw)
    clear hfw hN
    by_cases hi : ifs.length ≤ 100
    · go_enter Try.func5, Try.ntmps5
      go_wp2_with fail
      refine (unhide HFW).mono ?_
      rintro e w1 ⟨rfl, hw1⟩
      rw [show w1 = w from hw1]
      clear hw1
      go_wp2
      have HI0 : Hid (KI w (w.alloc (.cells #[.string ⟨#[]⟩, .slice none 0 0] 34)) w.heap.size (ftx (keepL ifs (L.take 0))) (fqs (keepL ifs (L.take 0)))) := hide (KI.new w w (Below.refl _ _))
      generalize w.alloc (.cells #[.string ⟨#[]⟩, .slice none 0 0] 34) = W0 at HI0 ⊢
      go_loopw [6] (fun i wr => ∃ k : Nat, i = .int .i64 k ∧ k ≤ N ∧ Hid (KI w wr w.heap.size (ftx (keepL ifs (L.take k))) (fqs (keepL ifs (L.take k))))) (fun i _ => N - (intOf i).toNat)
      case atStart => exact ⟨0, rfl, Nat.zero_le _, HI0⟩
      case round =>
        clear HI0 W0
        obtain ⟨k, rfl, hk, HI⟩ := hrel
        by_cases hlt : k < N
        · obtain ⟨⟨t, q, sp, br⟩, hx⟩ : ∃ x, L[k]? = some x := ⟨_, List.getElem?_eq_getElem (by have := unhide HN; omega)⟩
          obtain ⟨ts, rfl⟩ : ∃ ts : ByteArray, t = ts.data.toList := ⟨BA t, rfl⟩
          have hts : ts.size ≤ 100 := by have := (unhide HFI).2 _ (List.mem_of_getElem? hx); simp only at this; rwa [data_len] at this
          have HR := hide (keep_take (ifs := ifs) hx)
          obtain ⟨gp, o, rfl, hc⟩ := unhide HP k _ hx
          obtain ⟨c0, c1, c2, c3⟩ := hc wr (unhide HI).below
          simp only [BA_of] at c0 c1 c2 c3
          have hk1 : (k : Int) < (N : Int) := by omega
          have HKP : Hid (KI w (wr.alloc (.cells #[.string ts, .bool q, .bool sp, .bool br] 42)) w.heap.size (ftx (keepL ifs (L.take k))) (fqs (keepL ifs (L.take k)))) := hide ((unhide HI).kept ((Below.refl _ _).alloc (Nat.le_refl _) _))
          have HPB0 : Hid (Blk (wr.alloc (.cells #[.string ts, .bool q, .bool sp, .bool br] 42)) wr.heap.size 42 #[.string ts, .bool q, .bool sp, .bool br]) := hide (Blk.new _ _ _)
          have HNE : Hid (wr.heap.size ≠ w.heap.size) := hide (by obtain ⟨_, hb, _⟩ := (unhide HI).own; have := hb.lt; omega)
          have HKL : Hid ((keepL ifs (L.take k)).length ≤ 3000) := hide (by
            have h1 := keepL_len ifs 100 (L.take k) (fun p hp => (unhide HFI).2 p (List.mem_of_mem_take hp))
            have h2 : (L.take k).length * 100 ≤ 30 * 100 := Nat.mul_le_mul_right _ (by have := List.length_take_le k L; omega)
            omega)
          clear hc hx
          go_wp2
          generalize wr.alloc (.cells #[.string ts, .bool q, .bool sp, .bool br] 42) = Wp at HKP HPB0 ⊢
          generalize wr.heap.size = bp at HNE HPB0 ⊢
          clear HI c0 c1 c2 c3
          obtain ⟨K0, hK0⟩ : ∃ f, f = keepL ifs (L.take k) := ⟨_, rfl⟩
          rw [← hK0] at HKP HKL HR
          clear hK0
          cases br with
          | true =>
            go_loopw [8] (fun i wx => i = .int .i64 0 ∧ wx = Wp) (fun _ _ => 0)
            case atStart => exact ⟨rfl, rfl⟩
            case round =>
              obtain ⟨rfl, rfl⟩ := hrel
              have d0 := (unhide HPB0).cell 0 rfl
              have d3 := (unhide HPB0).cell 3 rfl
              by_cases hz : 0 < ts.size
              · have hz1 : (0 : Int) < (ts.size : Int) := by omega
                go_wp2
                go_roundw
                case rel => exact ⟨k + 1, by go_num, by omega, hide (by rw [unhide HR, show keepP ifs ⟨ts.data.toList, q, sp, true⟩ = [] from rfl, List.append_nil]; exact unhide HKP)⟩
                case measure => simp [intOf]; omega
              · have hz1 : ¬ (0 : Int) < (ts.size : Int) := by omega
                go_wp2
                go_roundw
                case rel => exact ⟨k + 1, by go_num, by omega, hide (by rw [unhide HR, show keepP ifs ⟨ts.data.toList, q, sp, true⟩ = [] from rfl, List.append_nil]; exact unhide HKP)⟩
                case measure => simp [intOf]; omega
          | false =>
            go_loopw [8] (fun i wr => ∃ j : Nat, i = .int .i64 j ∧ j ≤ ts.size ∧ Hid (KI w wr w.heap.size (ftx (K0 ++ keepT ifs q sp (ts.data.toList.take j))) (fqs (K0 ++ keepT ifs q sp (ts.data.toList.take j))) ∧ Blk wr bp 42 #[.string ts, .bool q, .bool sp, .bool false])) (fun i _ => ts.size - (intOf i).toNat)
            case atStart => exact ⟨0, rfl, Nat.zero_le _, hide ⟨by rw [show K0 ++ keepT ifs q sp (ts.data.toList.take 0) = K0 from List.append_nil _]; exact unhide HKP, unhide HPB0⟩⟩
            case round =>
              clear HKP HPB0
              obtain ⟨j, rfl, hj, HKK⟩ := hrel
              have HPB := hide (unhide HKK).2
              have d0 := (unhide HPB).cell 0 rfl
              have d1 := (unhide HPB).cell 1 rfl
              have d2 := (unhide HPB).cell 2 rfl
              have d3 := (unhide HPB).cell 3 rfl
              by_cases hjl : j < ts.size
              · obtain ⟨c, hc⟩ : ∃ c : UInt8, ts[j]'hjl = c := ⟨_, rfl⟩
                have hj1 : (j : Int) < (ts.size : Int) := by omega
                have HTK : Hid (ts.data.toList.take (j + 1) = ts.data.toList.take j ++ [c]) := hide (by rw [List.take_add_one, List.getElem?_eq_getElem (by rw [data_len]; exact hjl), data_get ts j hjl, hc]; rfl)
                obtain ⟨f, hf⟩ : ∃ f, f = K0 ++ keepT ifs q sp (ts.data.toList.take j) := ⟨_, rfl⟩
                have HK : Hid (KI w wr w.heap.size (ftx f) (fqs f)) := hide (by rw [hf]; exact (unhide HKK).1)
                have HF := hide hf
                have HFL : Hid (f.length ≤ 4000) := hide (by
                  have h1 := keepT_len ifs q sp (ts.data.toList.take j)
                  have h2 := List.length_take_le j ts.data.toList
                  have h3 := unhide HKL
                  rw [hf, List.length_append]
                  omega)
                have HCX : Hid (ts.extract j (j + 1) = BA [c]) := hide (by rw [extract_take, drop_at hjl, hc]; rfl)
                obtain ⟨j1, hj1e⟩ : ∃ j1 : Nat, j1 = j + 1 := ⟨_, rfl⟩
                have hwr : IntKind.i64.wrap ((j : Int) + 1) = (j1 : Int) := by rw [IntKind.wrap_i64]; omega
                have hjj : (j : Int) ≤ (j1 : Int) := by omega
                have hjs : (j1 : Int) ≤ (ts.size : Int) := by omega
                have hcat : BA (ftx f) ++ ts.extract j j1 = BA (ftx (f ++ [(c, q)])) := by rw [hj1e, unhide HCX, ftx_app]; rfl
                have hxs : (ts.extract j j1).size ≤ 10 := by rw [hj1e, unhide HCX, BA_size]; simp
                clear hj1e
                have hfs : (ftx f).length ≤ 4000 := by rw [ftx_len]; exact unhide HFL
                obtain ⟨c00, f00⟩ : wr.cell? ⟨w.heap.size, 0, none⟩ = some (.string (BA (ftx f))) ∧ wr.frozen? ⟨w.heap.size, 0, none⟩ = false := by
                  obtain ⟨_, hb, _⟩ := (unhide HK).own
                  exact ⟨hb.cell 0 rfl, hb.frozen 0⟩
                clear hf HKK
                cases q with
                | true =>
                  have HKT : Hid (K0 ++ keepT ifs true sp (ts.data.toList.take (j + 1)) = f ++ [(c, true)]) := hide (by rw [unhide HTK, keepT_app, ← List.append_assoc, ← unhide HF, keep_one (.inl rfl)])
                  go_wp2_with fail
                  refine wp_region_held_drew (S := fun w' => w'.cell? ⟨bp, 0, none⟩ = some (.string ts)) (by kernel_rfl) (by exact (unhide HPB).cell 0 rfl) (fun hHeld => ?_)
                  refine wpAnyH_take (i := 0) (oi := { dst := some 60, op := Op.fieldAddr 34 (Operand.tmp 5) 0, type := 0, pos := "law.go:103", after := #[], guard := none }) (v := ?_) rfl (by kernel_rfl) (by kernel_rfl) (by kernel_rfl) (fun _ _ _ h => h) (Or.inl ⟨by rfl, ?_⟩) (by assumption) ?_
                  rotate_left
                  · intro w hSw; (try dsimp only at hSw); go_simp; (try rw [if_neg (by omega)]); (try with_reducible rfl)
                  simp only [Act.put, List.setIfInBounds_toArray, List.set_cons_zero, List.set_cons_succ]
                  refine wpAnyH_take (i := 2) (oi := { dst := some 62, op := Op.fieldAddr 42 (Operand.tmp 7) 0, type := 0, pos := "law.go:103", after := #[], guard := none }) (v := ?_) rfl (by kernel_rfl) (by kernel_rfl) (by kernel_rfl) (fun _ _ _ h => h) (Or.inl ⟨by rfl, ?_⟩) (by assumption) ?_
                  rotate_left
                  · intro w hSw; (try dsimp only at hSw); go_simp; (try rw [if_neg (by omega)]); (try with_reducible rfl)
                  simp only [Act.put, List.setIfInBounds_toArray, List.set_cons_zero, List.set_cons_succ]
                  refine wpAnyH_take (i := 3) (oi := { dst := some 63, op := Op.load 9 (Operand.tmp 62), type := 9, pos := "law.go:103", after := #[{ on := 2, ground := Ground.data }], guard := none }) (v := ?_) rfl (by kernel_rfl) (by kernel_rfl) (by kernel_rfl) (fun _ _ _ h => h) (Or.inl ⟨by rfl, ?_⟩) (by assumption) ?_
                  rotate_left
                  · intro w hSw; (try dsimp only at hSw); go_simp; (try rw [if_neg (by omega)]); (try with_reducible rfl)
                  simp only [Act.put, List.setIfInBounds_toArray, List.set_cons_zero, List.set_cons_succ]
                  refine wpAnyH_take (i := 4) (oi := { dst := some 64, op := Op.move (Operand.tmp 8), type := 3, pos := "law.go:103", after := #[], guard := none }) (v := ?_) rfl (by kernel_rfl) (by kernel_rfl) (by kernel_rfl) (fun _ _ _ h => h) (Or.inl ⟨by rfl, ?_⟩) (by assumption) ?_
                  rotate_left
                  · intro w hSw; (try dsimp only at hSw); go_simp; (try rw [if_neg (by omega)]); (try with_reducible rfl)
                  simp only [Act.put, List.setIfInBounds_toArray, List.set_cons_zero, List.set_cons_succ]
                  refine wpAnyH_take (i := 5) (oi := { dst := some 65, op := Op.move (Operand.tmp 8), type := 3, pos := "law.go:103", after := #[], guard := none }) (v := ?_) rfl (by kernel_rfl) (by kernel_rfl) (by kernel_rfl) (fun _ _ _ h => h) (Or.inl ⟨by rfl, ?_⟩) (by assumption) ?_
                  rotate_left
                  · intro w hSw; (try dsimp only at hSw); go_simp; (try rw [if_neg (by omega)]); (try with_reducible rfl)
                  simp only [Act.put, List.setIfInBounds_toArray, List.set_cons_zero, List.set_cons_succ]
                  refine wpAnyH_take (i := 6) (oi := { dst := some 66, op := Op.binOp BinOp.add 3 (Operand.tmp 65) (Operand.const (Value.int IntKind.i64 1)) 3, type := 3, pos := "law.go:103", after := #[{ on := 5, ground := Ground.data }], guard := none }) (v := ?_) rfl (by kernel_rfl) (by kernel_rfl) (by kernel_rfl) (fun _ _ _ h => h) (Or.inl ⟨by rfl, ?_⟩) (by assumption) ?_
                  rotate_left
                  · intro w hSw; (try dsimp only at hSw); go_simp; (try rw [if_neg (by omega)]); (try with_reducible rfl)
                  simp only [Act.put, List.setIfInBounds_toArray, List.set_cons_zero, List.set_cons_succ]
                  refine wpAnyH_take (i := 7) (oi := { dst := some 67, op := Op.slice 9 (Operand.tmp 63) (some (Operand.tmp 64)) (some (Operand.tmp 66)) none, type := 9, pos := "law.go:103", after := #[{ on := 3, ground := Ground.data }, { on := 4, ground := Ground.data }, { on := 6, ground := Ground.data }], guard := none }) (v := ?_) rfl (by kernel_rfl) (by kernel_rfl) (by kernel_rfl) (fun _ _ _ h => h) (Or.inl ⟨by rfl, ?_⟩) (by assumption) ?_
                  rotate_left
                  · intro w hSw; (try dsimp only at hSw); go_simp; (try rw [if_neg (by omega)]); (try with_reducible rfl)
                  simp only [Act.put, List.setIfInBounds_toArray, List.set_cons_zero, List.set_cons_succ]
                  refine wpAnyH_ready (rs := [1]) (by kernel_rfl) (by simp) ?_
                  refine AllReadyH.cons (o := { dst := some 61, op := Op.load 9 (Operand.tmp 60), type := 9, pos := "law.go:103", after := #[{ on := 0, ground := Ground.data }], guard := none }) rfl (fun KK hKK => ?_) AllReadyH.nil
                  go_simp
                  refine hKK.out _ _ (by exact (unhide HPB).cell 0 rfl) (fun hHeld => ?_)
                  clear hKK KK
                  try simp only [Act.put, List.setIfInBounds_toArray, List.set_cons_zero, List.set_cons_succ]
                  refine wpAnyH_take (i := 8) (oi := { dst := some 68, op := Op.binOp BinOp.add 9 (Operand.tmp 61) (Operand.tmp 67) 9, type := 9, pos := "law.go:103", after := #[{ on := 1, ground := Ground.data }, { on := 7, ground := Ground.data }], guard := none }) (v := ?_) rfl (by kernel_rfl) (by kernel_rfl) (by kernel_rfl) (fun _ _ _ h => h) (Or.inl ⟨by rfl, ?_⟩) (by assumption) ?_
                  rotate_left
                  · intro w hSw; (try dsimp only at hSw); go_simp; (try rw [if_neg (by omega)]); (try with_reducible rfl)
                  simp only [Act.put, List.setIfInBounds_toArray, List.set_cons_zero, List.set_cons_succ]
                  refine wpAnyH_take (i := 9) (oi := { dst := some 69, op := Op.fieldAddr 34 (Operand.tmp 5) 0, type := 0, pos := "law.go:103", after := #[{ on := 0, ground := Ground.phase }, { on := 1, ground := Ground.phase }, { on := 2, ground := Ground.phase }, { on := 3, ground := Ground.phase }, { on := 4, ground := Ground.phase }, { on := 5, ground := Ground.phase }, { on := 6, ground := Ground.phase }, { on := 7, ground := Ground.phase }, { on := 8, ground := Ground.phase }], guard := none }) (v := ?_) rfl (by kernel_rfl) (by kernel_rfl) (by kernel_rfl) (fun _ _ _ h => h) (Or.inl ⟨by rfl, ?_⟩) (by assumption) ?_
                  rotate_left
                  · intro w hSw; (try dsimp only at hSw); go_simp; (try rw [if_neg (by omega)]); (try with_reducible rfl)
                  simp only [Act.put, List.setIfInBounds_toArray, List.set_cons_zero, List.set_cons_succ]
                  refine wpAnyH_ready (rs := [10]) (by kernel_rfl) (by simp) ?_
                  refine AllReadyH.cons (o := { dst := none, op := Op.store 9 (Operand.tmp 69) (Operand.tmp 68), type := 0, pos := "law.go:103", after := #[{ on := 9, ground := Ground.data }, { on := 8, ground := Ground.data }, { on := 0, ground := Ground.phase }, { on := 1, ground := Ground.phase }, { on := 2, ground := Ground.phase }, { on := 3, ground := Ground.phase }, { on := 4, ground := Ground.phase }, { on := 5, ground := Ground.phase }, { on := 6, ground := Ground.phase }, { on := 7, ground := Ground.phase }, { on := 8, ground := Ground.phase }], guard := none }) rfl (fun KK hKK => ?_) AllReadyH.nil
                  go_simp
                  have HS1 : Hid (KI w (wr.setCell ⟨w.heap.size, 0, none⟩ (.string (BA (ftx (f ++ [(c, true)]))))) w.heap.size (ftx (f ++ [(c, true)])) (fqs f) ∧ Blk (wr.setCell ⟨w.heap.size, 0, none⟩ (.string (BA (ftx (f ++ [(c, true)]))))) bp 42 #[.string ts, .bool true, .bool sp, .bool false]) := hide ⟨(unhide HK).text _, (unhide HPB).grownS (setb_grown _ _ _ _) (unhide HNE)⟩
                  refine hKK.out _ _ (by exact (unhide HS1).2.cell 0 rfl) (fun hHeld => ?_)
                  clear hKK KK
                  try simp only [Act.put, List.setIfInBounds_toArray, List.set_cons_zero, List.set_cons_succ]
                  clear hHeld
                  refine wpAnyH_done (by kernel_rfl) ?_ _
                  obtain ⟨w3, hw3⟩ : ∃ x, x = (wr.setCell ⟨w.heap.size, 0, none⟩ (.string (BA (ftx (f ++ [(c, true)]))))).drew := ⟨_, rfl⟩
                  have HS0 := HS1
                  clear HS1
                  have HS1 : Hid (KI w w3 w.heap.size (ftx (f ++ [(c, true)])) (fqs f) ∧ Blk w3 bp 42 #[.string ts, .bool true, .bool sp, .bool false]) := hide (by rw [hw3]; exact ⟨(unhide HS0).1.kept (below_drew _ 1), (unhide HS0).2⟩)
                  rw [← hw3]
                  clear HS0
                  have hsz3 : w.heap.size ≤ w3.heap.size := (unhide HS1).1.below.size
                  obtain ⟨wv, hwv⟩ := (unhide HS1).1.own
                  obtain ⟨wa, wn, wc, rfl⟩ := slice_own hwv.2
                  have c31 : w3.cell? ⟨w.heap.size, 1, none⟩ = some (.slice wa wn wc) := hwv.1.cell 1 rfl
                  have c3q : w3.cell? ⟨bp, 1, none⟩ = some (.bool true) := (unhide HS1).2.cell 1 rfl
                  have HWV := hide hwv
                  obtain ⟨nf, hnf⟩ : ∃ n, n = (fqs f).length := ⟨_, rfl⟩
                  have hfl : nf ≤ 4000 := by rw [hnf, fqs_len]; exact unhide HFL
                  have HST : Hid (∀ (w1 : World) (g cap : Nat), w1.ownsRow w.heap.size 4 1 (.slice (some ⟨g, 0, none⟩) (nf + 1) cap) (nf + 1) ((fqs f).map Value.bool ++ [.bool true]) → (w3.alloc (.cells #[.bool true] 4)).grownBy w1 (Value.ownBlock (.slice wa wn wc)) → w1.cell? ⟨w.heap.size, 1, none⟩ = some (.slice wa wn wc) ∧ w1.frozen? ⟨w.heap.size, 1, none⟩ = false ∧ KI w (w1.setCell ⟨w.heap.size, 1, none⟩ (.slice (some ⟨g, 0, none⟩) (nf + 1) cap)) w.heap.size (ftx (f ++ [(c, true)])) (fqs (f ++ [(c, true)])) ∧ Blk (w1.setCell ⟨w.heap.size, 1, none⟩ (.slice (some ⟨g, 0, none⟩) (nf + 1) cap)) bp 42 #[.string ts, .bool true, .bool sp, .bool false]) := hide (by rw [hnf]; exact fun w1 g cap h1 h2 => keeps_push (unhide HS1).1 (unhide HWV) (unhide HS1).2 (unhide HNE) h1 h2)
                  have HWO : Hid (w3.ownsRow w.heap.size 4 1 (.slice wa wn wc) nf ((fqs f).map Value.bool)) := hide (by rw [hnf]; exact hwv.2)
                  clear hw3 hwv hnf hwr hjj hjs hcat hxs c00 f00
                  go_wp2_with (first
                    | (at_builtin; refine wpList_append_lies (w3.alloc (.cells #[.bool true] 4)) rfl (.tmp 71) (.tmp 74) 32 rfl w.heap.size 4 i1 (.bool false) 1 1 und_bools hbi hy0 hy1 hy2 rfl (by decide) (.slice wa wn wc) nf ((fqs f).map Value.bool) rfl (World.ownsRow.alloc (unhide HWO) _) ⟨w3.heap.size, 0, none⟩ 1 1 [.bool true] rfl rfl one_cell one_bool (by decide) (by unfold maxLen; omega) (by omega) (by simp; omega) (w3.heap.size + 1) (by simp) ?_)
                    | go_in)
                  intro g cap w4 hown hgrow hat hlt4
                  obtain ⟨d1, z1, hP, hP2⟩ := unhide HST w4 g cap hown hgrow
                  have HP2 := hide (And.intro hP hP2)
                  clear hown hgrow hat hP hP2 hlt4
                  go_wp2
                  go_roundw
                  case rel => exact ⟨j + 1, by go_num, by omega, hide ⟨by rw [unhide HKT]; exact (unhide HP2).1, (unhide HP2).2⟩⟩
                  case measure => simp [intOf]; omega
                | false =>
                  cases sp with
                  | false =>
                    have HKT : Hid (K0 ++ keepT ifs false false (ts.data.toList.take (j + 1)) = f ++ [(c, false)]) := hide (by rw [unhide HTK, keepT_app, ← List.append_assoc, ← unhide HF, keep_one (.inr (.inl rfl))])
                    go_wp2_with fail
                    refine wp_region_held_drew (S := fun w' => w'.cell? ⟨bp, 0, none⟩ = some (.string ts)) (by kernel_rfl) (by exact (unhide HPB).cell 0 rfl) (fun hHeld => ?_)
                    refine wpAnyH_take (i := 0) (oi := { dst := some 60, op := Op.fieldAddr 34 (Operand.tmp 5) 0, type := 0, pos := "law.go:103", after := #[], guard := none }) (v := ?_) rfl (by kernel_rfl) (by kernel_rfl) (by kernel_rfl) (fun _ _ _ h => h) (Or.inl ⟨by rfl, ?_⟩) (by assumption) ?_
                    rotate_left
                    · intro w hSw; (try dsimp only at hSw); go_simp; (try rw [if_neg (by omega)]); (try with_reducible rfl)
                    simp only [Act.put, List.setIfInBounds_toArray, List.set_cons_zero, List.set_cons_succ]
                    refine wpAnyH_take (i := 2) (oi := { dst := some 62, op := Op.fieldAddr 42 (Operand.tmp 7) 0, type := 0, pos := "law.go:103", after := #[], guard := none }) (v := ?_) rfl (by kernel_rfl) (by kernel_rfl) (by kernel_rfl) (fun _ _ _ h => h) (Or.inl ⟨by rfl, ?_⟩) (by assumption) ?_
                    rotate_left
                    · intro w hSw; (try dsimp only at hSw); go_simp; (try rw [if_neg (by omega)]); (try with_reducible rfl)
                    simp only [Act.put, List.setIfInBounds_toArray, List.set_cons_zero, List.set_cons_succ]
                    refine wpAnyH_take (i := 3) (oi := { dst := some 63, op := Op.load 9 (Operand.tmp 62), type := 9, pos := "law.go:103", after := #[{ on := 2, ground := Ground.data }], guard := none }) (v := ?_) rfl (by kernel_rfl) (by kernel_rfl) (by kernel_rfl) (fun _ _ _ h => h) (Or.inl ⟨by rfl, ?_⟩) (by assumption) ?_
                    rotate_left
                    · intro w hSw; (try dsimp only at hSw); go_simp; (try rw [if_neg (by omega)]); (try with_reducible rfl)
                    simp only [Act.put, List.setIfInBounds_toArray, List.set_cons_zero, List.set_cons_succ]
                    refine wpAnyH_take (i := 4) (oi := { dst := some 64, op := Op.move (Operand.tmp 8), type := 3, pos := "law.go:103", after := #[], guard := none }) (v := ?_) rfl (by kernel_rfl) (by kernel_rfl) (by kernel_rfl) (fun _ _ _ h => h) (Or.inl ⟨by rfl, ?_⟩) (by assumption) ?_
                    rotate_left
                    · intro w hSw; (try dsimp only at hSw); go_simp; (try rw [if_neg (by omega)]); (try with_reducible rfl)
                    simp only [Act.put, List.setIfInBounds_toArray, List.set_cons_zero, List.set_cons_succ]
                    refine wpAnyH_take (i := 5) (oi := { dst := some 65, op := Op.move (Operand.tmp 8), type := 3, pos := "law.go:103", after := #[], guard := none }) (v := ?_) rfl (by kernel_rfl) (by kernel_rfl) (by kernel_rfl) (fun _ _ _ h => h) (Or.inl ⟨by rfl, ?_⟩) (by assumption) ?_
                    rotate_left
                    · intro w hSw; (try dsimp only at hSw); go_simp; (try rw [if_neg (by omega)]); (try with_reducible rfl)
                    simp only [Act.put, List.setIfInBounds_toArray, List.set_cons_zero, List.set_cons_succ]
                    refine wpAnyH_take (i := 6) (oi := { dst := some 66, op := Op.binOp BinOp.add 3 (Operand.tmp 65) (Operand.const (Value.int IntKind.i64 1)) 3, type := 3, pos := "law.go:103", after := #[{ on := 5, ground := Ground.data }], guard := none }) (v := ?_) rfl (by kernel_rfl) (by kernel_rfl) (by kernel_rfl) (fun _ _ _ h => h) (Or.inl ⟨by rfl, ?_⟩) (by assumption) ?_
                    rotate_left
                    · intro w hSw; (try dsimp only at hSw); go_simp; (try rw [if_neg (by omega)]); (try with_reducible rfl)
                    simp only [Act.put, List.setIfInBounds_toArray, List.set_cons_zero, List.set_cons_succ]
                    refine wpAnyH_take (i := 7) (oi := { dst := some 67, op := Op.slice 9 (Operand.tmp 63) (some (Operand.tmp 64)) (some (Operand.tmp 66)) none, type := 9, pos := "law.go:103", after := #[{ on := 3, ground := Ground.data }, { on := 4, ground := Ground.data }, { on := 6, ground := Ground.data }], guard := none }) (v := ?_) rfl (by kernel_rfl) (by kernel_rfl) (by kernel_rfl) (fun _ _ _ h => h) (Or.inl ⟨by rfl, ?_⟩) (by assumption) ?_
                    rotate_left
                    · intro w hSw; (try dsimp only at hSw); go_simp; (try rw [if_neg (by omega)]); (try with_reducible rfl)
                    simp only [Act.put, List.setIfInBounds_toArray, List.set_cons_zero, List.set_cons_succ]
                    refine wpAnyH_ready (rs := [1]) (by kernel_rfl) (by simp) ?_
                    refine AllReadyH.cons (o := { dst := some 61, op := Op.load 9 (Operand.tmp 60), type := 9, pos := "law.go:103", after := #[{ on := 0, ground := Ground.data }], guard := none }) rfl (fun KK hKK => ?_) AllReadyH.nil
                    go_simp
                    refine hKK.out _ _ (by exact (unhide HPB).cell 0 rfl) (fun hHeld => ?_)
                    clear hKK KK
                    try simp only [Act.put, List.setIfInBounds_toArray, List.set_cons_zero, List.set_cons_succ]
                    refine wpAnyH_take (i := 8) (oi := { dst := some 68, op := Op.binOp BinOp.add 9 (Operand.tmp 61) (Operand.tmp 67) 9, type := 9, pos := "law.go:103", after := #[{ on := 1, ground := Ground.data }, { on := 7, ground := Ground.data }], guard := none }) (v := ?_) rfl (by kernel_rfl) (by kernel_rfl) (by kernel_rfl) (fun _ _ _ h => h) (Or.inl ⟨by rfl, ?_⟩) (by assumption) ?_
                    rotate_left
                    · intro w hSw; (try dsimp only at hSw); go_simp; (try rw [if_neg (by omega)]); (try with_reducible rfl)
                    simp only [Act.put, List.setIfInBounds_toArray, List.set_cons_zero, List.set_cons_succ]
                    refine wpAnyH_take (i := 9) (oi := { dst := some 69, op := Op.fieldAddr 34 (Operand.tmp 5) 0, type := 0, pos := "law.go:103", after := #[{ on := 0, ground := Ground.phase }, { on := 1, ground := Ground.phase }, { on := 2, ground := Ground.phase }, { on := 3, ground := Ground.phase }, { on := 4, ground := Ground.phase }, { on := 5, ground := Ground.phase }, { on := 6, ground := Ground.phase }, { on := 7, ground := Ground.phase }, { on := 8, ground := Ground.phase }], guard := none }) (v := ?_) rfl (by kernel_rfl) (by kernel_rfl) (by kernel_rfl) (fun _ _ _ h => h) (Or.inl ⟨by rfl, ?_⟩) (by assumption) ?_
                    rotate_left
                    · intro w hSw; (try dsimp only at hSw); go_simp; (try rw [if_neg (by omega)]); (try with_reducible rfl)
                    simp only [Act.put, List.setIfInBounds_toArray, List.set_cons_zero, List.set_cons_succ]
                    refine wpAnyH_ready (rs := [10]) (by kernel_rfl) (by simp) ?_
                    refine AllReadyH.cons (o := { dst := none, op := Op.store 9 (Operand.tmp 69) (Operand.tmp 68), type := 0, pos := "law.go:103", after := #[{ on := 9, ground := Ground.data }, { on := 8, ground := Ground.data }, { on := 0, ground := Ground.phase }, { on := 1, ground := Ground.phase }, { on := 2, ground := Ground.phase }, { on := 3, ground := Ground.phase }, { on := 4, ground := Ground.phase }, { on := 5, ground := Ground.phase }, { on := 6, ground := Ground.phase }, { on := 7, ground := Ground.phase }, { on := 8, ground := Ground.phase }], guard := none }) rfl (fun KK hKK => ?_) AllReadyH.nil
                    go_simp
                    have HS1 : Hid (KI w (wr.setCell ⟨w.heap.size, 0, none⟩ (.string (BA (ftx (f ++ [(c, false)]))))) w.heap.size (ftx (f ++ [(c, false)])) (fqs f) ∧ Blk (wr.setCell ⟨w.heap.size, 0, none⟩ (.string (BA (ftx (f ++ [(c, false)]))))) bp 42 #[.string ts, .bool false, .bool false, .bool false]) := hide ⟨(unhide HK).text _, (unhide HPB).grownS (setb_grown _ _ _ _) (unhide HNE)⟩
                    refine hKK.out _ _ (by exact (unhide HS1).2.cell 0 rfl) (fun hHeld => ?_)
                    clear hKK KK
                    try simp only [Act.put, List.setIfInBounds_toArray, List.set_cons_zero, List.set_cons_succ]
                    clear hHeld
                    refine wpAnyH_done (by kernel_rfl) ?_ _
                    obtain ⟨w3, hw3⟩ : ∃ x, x = (wr.setCell ⟨w.heap.size, 0, none⟩ (.string (BA (ftx (f ++ [(c, false)]))))).drew := ⟨_, rfl⟩
                    have HS0 := HS1
                    clear HS1
                    have HS1 : Hid (KI w w3 w.heap.size (ftx (f ++ [(c, false)])) (fqs f) ∧ Blk w3 bp 42 #[.string ts, .bool false, .bool false, .bool false]) := hide (by rw [hw3]; exact ⟨(unhide HS0).1.kept (below_drew _ 1), (unhide HS0).2⟩)
                    rw [← hw3]
                    clear HS0
                    have hsz3 : w.heap.size ≤ w3.heap.size := (unhide HS1).1.below.size
                    obtain ⟨wv, hwv⟩ := (unhide HS1).1.own
                    obtain ⟨wa, wn, wc, rfl⟩ := slice_own hwv.2
                    have c31 : w3.cell? ⟨w.heap.size, 1, none⟩ = some (.slice wa wn wc) := hwv.1.cell 1 rfl
                    have c3q : w3.cell? ⟨bp, 1, none⟩ = some (.bool false) := (unhide HS1).2.cell 1 rfl
                    have HWV := hide hwv
                    obtain ⟨nf, hnf⟩ : ∃ n, n = (fqs f).length := ⟨_, rfl⟩
                    have hfl : nf ≤ 4000 := by rw [hnf, fqs_len]; exact unhide HFL
                    have HST : Hid (∀ (w1 : World) (g cap : Nat), w1.ownsRow w.heap.size 4 1 (.slice (some ⟨g, 0, none⟩) (nf + 1) cap) (nf + 1) ((fqs f).map Value.bool ++ [.bool false]) → (w3.alloc (.cells #[.bool false] 4)).grownBy w1 (Value.ownBlock (.slice wa wn wc)) → w1.cell? ⟨w.heap.size, 1, none⟩ = some (.slice wa wn wc) ∧ w1.frozen? ⟨w.heap.size, 1, none⟩ = false ∧ KI w (w1.setCell ⟨w.heap.size, 1, none⟩ (.slice (some ⟨g, 0, none⟩) (nf + 1) cap)) w.heap.size (ftx (f ++ [(c, false)])) (fqs (f ++ [(c, false)])) ∧ Blk (w1.setCell ⟨w.heap.size, 1, none⟩ (.slice (some ⟨g, 0, none⟩) (nf + 1) cap)) bp 42 #[.string ts, .bool false, .bool false, .bool false]) := hide (by rw [hnf]; exact fun w1 g cap h1 h2 => keeps_push (unhide HS1).1 (unhide HWV) (unhide HS1).2 (unhide HNE) h1 h2)
                    have HWO : Hid (w3.ownsRow w.heap.size 4 1 (.slice wa wn wc) nf ((fqs f).map Value.bool)) := hide (by rw [hnf]; exact hwv.2)
                    clear hw3 hwv hnf hwr hjj hjs hcat hxs c00 f00
                    go_wp2_with (first
                      | (at_builtin; refine wpList_append_lies (w3.alloc (.cells #[.bool false] 4)) rfl (.tmp 71) (.tmp 74) 32 rfl w.heap.size 4 i1 (.bool false) 1 1 und_bools hbi hy0 hy1 hy2 rfl (by decide) (.slice wa wn wc) nf ((fqs f).map Value.bool) rfl (World.ownsRow.alloc (unhide HWO) _) ⟨w3.heap.size, 0, none⟩ 1 1 [.bool false] rfl rfl one_cell one_bool (by decide) (by unfold maxLen; omega) (by omega) (by simp; omega) (w3.heap.size + 1) (by simp) ?_)
                      | go_in)
                    intro g cap w4 hown hgrow hat hlt4
                    obtain ⟨d1, z1, hP, hP2⟩ := unhide HST w4 g cap hown hgrow
                    have HP2 := hide (And.intro hP hP2)
                    clear hown hgrow hat hP hP2 hlt4
                    go_wp2
                    go_roundw
                    case rel => exact ⟨j + 1, by go_num, by omega, hide ⟨by rw [unhide HKT]; exact (unhide HP2).1, (unhide HP2).2⟩⟩
                    case measure => simp [intOf]; omega
                  | true =>
                    have HWI := hide (within_any ifs c wr (by omega))
                    cases hb : hasB ifs c with
                    | true =>
                      rw [hb] at HWI
                      have HBF := hide hb
                      clear hb
                      have HKT : Hid (K0 ++ keepT ifs false true (ts.data.toList.take (j + 1)) = f) := hide (by rw [unhide HTK, keepT_app, keep_none (unhide HBF), List.append_nil, ← unhide HF])
                      go_wp2_with fail
                      refine (unhide HWI).mono ?_
                      rintro e w1 ⟨rfl, hw1⟩
                      rw [show w1 = wr from hw1]
                      clear hw1
                      clear hwr hjj hjs hcat hxs
                      go_wp2
                      go_roundw
                      case rel => exact ⟨j + 1, by go_num, by omega, hide ⟨by rw [unhide HKT]; exact unhide HK, unhide HPB⟩⟩
                      case measure => simp [intOf]; omega
                    | false =>
                      rw [hb] at HWI
                      have HBF := hide hb
                      clear hb
                      have HKT : Hid (K0 ++ keepT ifs false true (ts.data.toList.take (j + 1)) = f ++ [(c, false)]) := hide (by rw [unhide HTK, keepT_app, ← List.append_assoc, ← unhide HF, keep_one (.inr (.inr (unhide HBF)))])
                      go_wp2_with fail
                      refine (unhide HWI).mono ?_
                      rintro e w1 ⟨rfl, hw1⟩
                      rw [show w1 = wr from hw1]
                      clear hw1
                      go_wp2_with fail
                      refine wp_region_held_drew (S := fun w' => w'.cell? ⟨bp, 0, none⟩ = some (.string ts)) (by kernel_rfl) (by exact (unhide HPB).cell 0 rfl) (fun hHeld => ?_)
                      refine wpAnyH_take (i := 0) (oi := { dst := some 60, op := Op.fieldAddr 34 (Operand.tmp 5) 0, type := 0, pos := "law.go:103", after := #[], guard := none }) (v := ?_) rfl (by kernel_rfl) (by kernel_rfl) (by kernel_rfl) (fun _ _ _ h => h) (Or.inl ⟨by rfl, ?_⟩) (by assumption) ?_
                      rotate_left
                      · intro w hSw; (try dsimp only at hSw); go_simp; (try rw [if_neg (by omega)]); (try with_reducible rfl)
                      simp only [Act.put, List.setIfInBounds_toArray, List.set_cons_zero, List.set_cons_succ]
                      refine wpAnyH_take (i := 2) (oi := { dst := some 62, op := Op.fieldAddr 42 (Operand.tmp 7) 0, type := 0, pos := "law.go:103", after := #[], guard := none }) (v := ?_) rfl (by kernel_rfl) (by kernel_rfl) (by kernel_rfl) (fun _ _ _ h => h) (Or.inl ⟨by rfl, ?_⟩) (by assumption) ?_
                      rotate_left
                      · intro w hSw; (try dsimp only at hSw); go_simp; (try rw [if_neg (by omega)]); (try with_reducible rfl)
                      simp only [Act.put, List.setIfInBounds_toArray, List.set_cons_zero, List.set_cons_succ]
                      refine wpAnyH_take (i := 3) (oi := { dst := some 63, op := Op.load 9 (Operand.tmp 62), type := 9, pos := "law.go:103", after := #[{ on := 2, ground := Ground.data }], guard := none }) (v := ?_) rfl (by kernel_rfl) (by kernel_rfl) (by kernel_rfl) (fun _ _ _ h => h) (Or.inl ⟨by rfl, ?_⟩) (by assumption) ?_
                      rotate_left
                      · intro w hSw; (try dsimp only at hSw); go_simp; (try rw [if_neg (by omega)]); (try with_reducible rfl)
                      simp only [Act.put, List.setIfInBounds_toArray, List.set_cons_zero, List.set_cons_succ]
                      refine wpAnyH_take (i := 4) (oi := { dst := some 64, op := Op.move (Operand.tmp 8), type := 3, pos := "law.go:103", after := #[], guard := none }) (v := ?_) rfl (by kernel_rfl) (by kernel_rfl) (by kernel_rfl) (fun _ _ _ h => h) (Or.inl ⟨by rfl, ?_⟩) (by assumption) ?_
                      rotate_left
                      · intro w hSw; (try dsimp only at hSw); go_simp; (try rw [if_neg (by omega)]); (try with_reducible rfl)
                      simp only [Act.put, List.setIfInBounds_toArray, List.set_cons_zero, List.set_cons_succ]
                      refine wpAnyH_take (i := 5) (oi := { dst := some 65, op := Op.move (Operand.tmp 8), type := 3, pos := "law.go:103", after := #[], guard := none }) (v := ?_) rfl (by kernel_rfl) (by kernel_rfl) (by kernel_rfl) (fun _ _ _ h => h) (Or.inl ⟨by rfl, ?_⟩) (by assumption) ?_
                      rotate_left
                      · intro w hSw; (try dsimp only at hSw); go_simp; (try rw [if_neg (by omega)]); (try with_reducible rfl)
                      simp only [Act.put, List.setIfInBounds_toArray, List.set_cons_zero, List.set_cons_succ]
                      refine wpAnyH_take (i := 6) (oi := { dst := some 66, op := Op.binOp BinOp.add 3 (Operand.tmp 65) (Operand.const (Value.int IntKind.i64 1)) 3, type := 3, pos := "law.go:103", after := #[{ on := 5, ground := Ground.data }], guard := none }) (v := ?_) rfl (by kernel_rfl) (by kernel_rfl) (by kernel_rfl) (fun _ _ _ h => h) (Or.inl ⟨by rfl, ?_⟩) (by assumption) ?_
                      rotate_left
                      · intro w hSw; (try dsimp only at hSw); go_simp; (try rw [if_neg (by omega)]); (try with_reducible rfl)
                      simp only [Act.put, List.setIfInBounds_toArray, List.set_cons_zero, List.set_cons_succ]
                      refine wpAnyH_take (i := 7) (oi := { dst := some 67, op := Op.slice 9 (Operand.tmp 63) (some (Operand.tmp 64)) (some (Operand.tmp 66)) none, type := 9, pos := "law.go:103", after := #[{ on := 3, ground := Ground.data }, { on := 4, ground := Ground.data }, { on := 6, ground := Ground.data }], guard := none }) (v := ?_) rfl (by kernel_rfl) (by kernel_rfl) (by kernel_rfl) (fun _ _ _ h => h) (Or.inl ⟨by rfl, ?_⟩) (by assumption) ?_
                      rotate_left
                      · intro w hSw; (try dsimp only at hSw); go_simp; (try rw [if_neg (by omega)]); (try with_reducible rfl)
                      simp only [Act.put, List.setIfInBounds_toArray, List.set_cons_zero, List.set_cons_succ]
                      refine wpAnyH_ready (rs := [1]) (by kernel_rfl) (by simp) ?_
                      refine AllReadyH.cons (o := { dst := some 61, op := Op.load 9 (Operand.tmp 60), type := 9, pos := "law.go:103", after := #[{ on := 0, ground := Ground.data }], guard := none }) rfl (fun KK hKK => ?_) AllReadyH.nil
                      go_simp
                      refine hKK.out _ _ (by exact (unhide HPB).cell 0 rfl) (fun hHeld => ?_)
                      clear hKK KK
                      try simp only [Act.put, List.setIfInBounds_toArray, List.set_cons_zero, List.set_cons_succ]
                      refine wpAnyH_take (i := 8) (oi := { dst := some 68, op := Op.binOp BinOp.add 9 (Operand.tmp 61) (Operand.tmp 67) 9, type := 9, pos := "law.go:103", after := #[{ on := 1, ground := Ground.data }, { on := 7, ground := Ground.data }], guard := none }) (v := ?_) rfl (by kernel_rfl) (by kernel_rfl) (by kernel_rfl) (fun _ _ _ h => h) (Or.inl ⟨by rfl, ?_⟩) (by assumption) ?_
                      rotate_left
                      · intro w hSw; (try dsimp only at hSw); go_simp; (try rw [if_neg (by omega)]); (try with_reducible rfl)
                      simp only [Act.put, List.setIfInBounds_toArray, List.set_cons_zero, List.set_cons_succ]
                      refine wpAnyH_take (i := 9) (oi := { dst := some 69, op := Op.fieldAddr 34 (Operand.tmp 5) 0, type := 0, pos := "law.go:103", after := #[{ on := 0, ground := Ground.phase }, { on := 1, ground := Ground.phase }, { on := 2, ground := Ground.phase }, { on := 3, ground := Ground.phase }, { on := 4, ground := Ground.phase }, { on := 5, ground := Ground.phase }, { on := 6, ground := Ground.phase }, { on := 7, ground := Ground.phase }, { on := 8, ground := Ground.phase }], guard := none }) (v := ?_) rfl (by kernel_rfl) (by kernel_rfl) (by kernel_rfl) (fun _ _ _ h => h) (Or.inl ⟨by rfl, ?_⟩) (by assumption) ?_
                      rotate_left
                      · intro w hSw; (try dsimp only at hSw); go_simp; (try rw [if_neg (by omega)]); (try with_reducible rfl)
                      simp only [Act.put, List.setIfInBounds_toArray, List.set_cons_zero, List.set_cons_succ]
                      refine wpAnyH_ready (rs := [10]) (by kernel_rfl) (by simp) ?_
                      refine AllReadyH.cons (o := { dst := none, op := Op.store 9 (Operand.tmp 69) (Operand.tmp 68), type := 0, pos := "law.go:103", after := #[{ on := 9, ground := Ground.data }, { on := 8, ground := Ground.data }, { on := 0, ground := Ground.phase }, { on := 1, ground := Ground.phase }, { on := 2, ground := Ground.phase }, { on := 3, ground := Ground.phase }, { on := 4, ground := Ground.phase }, { on := 5, ground := Ground.phase }, { on := 6, ground := Ground.phase }, { on := 7, ground := Ground.phase }, { on := 8, ground := Ground.phase }], guard := none }) rfl (fun KK hKK => ?_) AllReadyH.nil
                      go_simp
                      have HS1 : Hid (KI w (wr.setCell ⟨w.heap.size, 0, none⟩ (.string (BA (ftx (f ++ [(c, false)]))))) w.heap.size (ftx (f ++ [(c, false)])) (fqs f) ∧ Blk (wr.setCell ⟨w.heap.size, 0, none⟩ (.string (BA (ftx (f ++ [(c, false)]))))) bp 42 #[.string ts, .bool false, .bool true, .bool false]) := hide ⟨(unhide HK).text _, (unhide HPB).grownS (setb_grown _ _ _ _) (unhide HNE)⟩
                      refine hKK.out _ _ (by exact (unhide HS1).2.cell 0 rfl) (fun hHeld => ?_)
                      clear hKK KK
                      try simp only [Act.put, List.setIfInBounds_toArray, List.set_cons_zero, List.set_cons_succ]
                      clear hHeld
                      refine wpAnyH_done (by kernel_rfl) ?_ _
                      obtain ⟨w3, hw3⟩ : ∃ x, x = (wr.setCell ⟨w.heap.size, 0, none⟩ (.string (BA (ftx (f ++ [(c, false)]))))).drew := ⟨_, rfl⟩
                      have HS0 := HS1
                      clear HS1
                      have HS1 : Hid (KI w w3 w.heap.size (ftx (f ++ [(c, false)])) (fqs f) ∧ Blk w3 bp 42 #[.string ts, .bool false, .bool true, .bool false]) := hide (by rw [hw3]; exact ⟨(unhide HS0).1.kept (below_drew _ 1), (unhide HS0).2⟩)
                      rw [← hw3]
                      clear HS0
                      have hsz3 : w.heap.size ≤ w3.heap.size := (unhide HS1).1.below.size
                      obtain ⟨wv, hwv⟩ := (unhide HS1).1.own
                      obtain ⟨wa, wn, wc, rfl⟩ := slice_own hwv.2
                      have c31 : w3.cell? ⟨w.heap.size, 1, none⟩ = some (.slice wa wn wc) := hwv.1.cell 1 rfl
                      have c3q : w3.cell? ⟨bp, 1, none⟩ = some (.bool false) := (unhide HS1).2.cell 1 rfl
                      have HWV := hide hwv
                      obtain ⟨nf, hnf⟩ : ∃ n, n = (fqs f).length := ⟨_, rfl⟩
                      have hfl : nf ≤ 4000 := by rw [hnf, fqs_len]; exact unhide HFL
                      have HST : Hid (∀ (w1 : World) (g cap : Nat), w1.ownsRow w.heap.size 4 1 (.slice (some ⟨g, 0, none⟩) (nf + 1) cap) (nf + 1) ((fqs f).map Value.bool ++ [.bool false]) → (w3.alloc (.cells #[.bool false] 4)).grownBy w1 (Value.ownBlock (.slice wa wn wc)) → w1.cell? ⟨w.heap.size, 1, none⟩ = some (.slice wa wn wc) ∧ w1.frozen? ⟨w.heap.size, 1, none⟩ = false ∧ KI w (w1.setCell ⟨w.heap.size, 1, none⟩ (.slice (some ⟨g, 0, none⟩) (nf + 1) cap)) w.heap.size (ftx (f ++ [(c, false)])) (fqs (f ++ [(c, false)])) ∧ Blk (w1.setCell ⟨w.heap.size, 1, none⟩ (.slice (some ⟨g, 0, none⟩) (nf + 1) cap)) bp 42 #[.string ts, .bool false, .bool true, .bool false]) := hide (by rw [hnf]; exact fun w1 g cap h1 h2 => keeps_push (unhide HS1).1 (unhide HWV) (unhide HS1).2 (unhide HNE) h1 h2)
                      have HWO : Hid (w3.ownsRow w.heap.size 4 1 (.slice wa wn wc) nf ((fqs f).map Value.bool)) := hide (by rw [hnf]; exact hwv.2)
                      clear hw3 hwv hnf hwr hjj hjs hcat hxs c00 f00
                      go_wp2_with (first
                        | (at_builtin; refine wpList_append_lies (w3.alloc (.cells #[.bool false] 4)) rfl (.tmp 71) (.tmp 74) 32 rfl w.heap.size 4 i1 (.bool false) 1 1 und_bools hbi hy0 hy1 hy2 rfl (by decide) (.slice wa wn wc) nf ((fqs f).map Value.bool) rfl (World.ownsRow.alloc (unhide HWO) _) ⟨w3.heap.size, 0, none⟩ 1 1 [.bool false] rfl rfl one_cell one_bool (by decide) (by unfold maxLen; omega) (by omega) (by simp; omega) (w3.heap.size + 1) (by simp) ?_)
                        | go_in)
                      intro g cap w4 hown hgrow hat hlt4
                      obtain ⟨d1, z1, hP, hP2⟩ := unhide HST w4 g cap hown hgrow
                      have HP2 := hide (And.intro hP hP2)
                      clear hown hgrow hat hP hP2 hlt4
                      go_wp2
                      go_roundw
                      case rel => exact ⟨j + 1, by go_num, by omega, hide ⟨by rw [unhide HKT]; exact (unhide HP2).1, (unhide HP2).2⟩⟩
                      case measure => simp [intOf]; omega
              · have hj1 : ¬ (j : Int) < (ts.size : Int) := by omega
                go_wp2
                go_roundw
                case rel => exact ⟨k + 1, by go_num, by omega, hide (by
                  rw [unhide HR, show keepP ifs ⟨ts.data.toList, q, sp, false⟩ = keepT ifs q sp ts.data.toList from rfl]
                  have := (unhide HKK).1
                  rwa [List.take_of_length_le (by rw [data_len]; omega)] at this)⟩
                case measure => simp [intOf]; omega
        · have hk1 : ¬ (k : Int) < (N : Int) := by omega
          rw [show L.take k = L from List.take_of_length_le (by have := unhide HN; omega)] at HI
          obtain ⟨F, hF⟩ : ∃ F, F = keepL ifs L := ⟨_, rfl⟩
          rw [← hF] at HI
          have HFF : Hid ((fieldsL ifs L).flatten = F) := hide (by rw [hF]; exact keeps_all ifs L)
          have HFLN : Hid (F.length ≤ 3000) := hide (by
            have h1 := keepL_len ifs 100 L (unhide HFI).2
            have h2 : L.length * 100 ≤ 30 * 100 := Nat.mul_le_mul_right _ (unhide HFI).1
            rw [hF]
            omega)
          clear hF
          have HW1 : Hid (Below w.heap.size w (wr.alloc (.cells #[.string ⟨#[]⟩, .slice none 0 0] 34))) := hide ((unhide HI).below.alloc (unhide HI).below.size _)
          have HFD := hide (fields_own _ L ifs (wr.alloc (.cells #[.string ⟨#[]⟩, .slice none 0 0] 34)) 100 ((unhide HRW).below (unhide HW1)) (by omega) (unhide HFI).2 (by have := (unhide HFI).1; omega))
          rw [← unhide HN] at HFD
          have HIW : Hid (KI w (wr.alloc (.cells #[.string ⟨#[]⟩, .slice none 0 0] 34)) w.heap.size (ftx F) (fqs F)) := hide ((unhide HI).kept ((Below.refl _ _).alloc (Nat.le_refl _) _))
          have HBG : Hid (Blk (wr.alloc (.cells #[.string ⟨#[]⟩, .slice none 0 0] 34)) wr.heap.size 34 #[.string ⟨#[]⟩, .slice none 0 0]) := hide (Blk.new _ _ _)
          have HNB : Hid (w.heap.size ≠ wr.heap.size ∧ w.heap.size ≤ wr.heap.size) := hide (by obtain ⟨_, hb, _⟩ := (unhide HI).own; have := hb.lt; omega)
          go_wp2_with fail
          refine (unhide HFD).mono ?_
          rintro e W2 ⟨u, rfl, b2, Lp, hLp, hrow, hsub⟩
          obtain ⟨nL, hnL⟩ : ∃ n, n = Lp.length := ⟨_, rfl⟩
          rw [← hnL] at hrow
          obtain ⟨fa, fc, rfl⟩ := own_slice hrow
          have HnL := hide hnL
          have HLp := hide hLp
          have HROW := hide hrow
          have HSUB := hide hsub
          have HI2 : Hid (KI w W2 w.heap.size (ftx F) (fqs F)) := hide ((unhide HIW).kept b2)
          have HB2 := hide b2
          have hnb : nL ≤ 4000 := by
            have h1 := sizS_run ifs 100 L ss0 (unhide HFI).2
            have h2 : L.length * (100 + 1) ≤ 30 * 101 := Nat.mul_le_mul_right _ (unhide HFI).1
            have h3 := sizS_close (runS ifs L)
            have h4 := congrArg List.length hLp
            rw [List.length_map] at h4
            have h5 : (fieldsL ifs L).length ≤ sizS (closeS (runS ifs L)) := by unfold sizS fieldsL; omega
            have h6 : sizS ss0 = 0 := rfl
            unfold runS at h3 h5
            omega
          have HG0 : Hid (GI W2 W2 wr.heap.size (ftx ([] : List Fd).flatten) (fqs ([] : List Fd).flatten)) := hide ⟨⟨_, (unhide HBG).below b2 (unhide HBG).lt, ownQ_nil _ _⟩, grownS_of_below (Below.refl _ _), Nat.lt_of_lt_of_le (unhide HBG).lt b2.size⟩
          have HBGW : Hid (Blk W2 wr.heap.size 34 #[.string ⟨#[]⟩, .slice none 0 0]) := hide ((unhide HBG).below b2 (unhide HBG).lt)
          have HLO : Hid (wr.heap.size < (wr.alloc (.cells #[.string ⟨#[]⟩, .slice none 0 0] 34)).heap.size) := hide (by simp)
          generalize (wr.alloc (.cells #[.string ⟨#[]⟩, .slice none 0 0] 34)).heap.size = B1 at HLO HROW HSUB
          clear hLp hrow hsub b2 hnL HIW HBG HFD HW1 HB2 HI
          go_wp2
          generalize wr.heap.size = bg at HNB HG0 HLO HBGW ⊢
          go_loopw [11] (fun i wr => ∃ k : Nat, i = .int .i64 k ∧ k ≤ nL ∧ Hid (GI W2 wr bg (ftx ((Lp.map Prod.fst).take k).flatten) (fqs ((Lp.map Prod.fst).take k).flatten))) (fun i _ => nL - (intOf i).toNat)
          case atStart => exact ⟨0, rfl, Nat.zero_le _, HG0⟩
          case round =>
            clear HG0
            obtain ⟨k, rfl, hk, HK0⟩ := hrel
            by_cases hlt : k < nL
            · obtain ⟨⟨x, qx⟩, hx⟩ : ∃ y, Lp[k]? = some y := ⟨_, List.getElem?_eq_getElem (by have := unhide HnL; omega)⟩
              have hq := unhide HSUB _ (List.mem_of_getElem? hx)
              simp only at hq
              obtain ⟨m, hm⟩ : ∃ m, m = (fqs x).length := ⟨_, rfl⟩
              have hm2 : (ftx x).length = m := by rw [hm, ftx_len, fqs_len]
              obtain ⟨qa, qc, hqe⟩ := own_slice hq
              rw [← hm] at hqe
              subst hqe
              obtain ⟨gf, hgf⟩ : ∃ gf, fa = some ⟨gf, 0, none⟩ ∧ B1 ≤ gf ∧ gf < W2.heap.size ∧ W2.cell? ⟨gf, k * 2, none⟩ = some (.string (BA (ftx x))) ∧ W2.cell? ⟨gf, k * 2 + 1, none⟩ = some (.slice qa m qc) := by
                obtain ⟨_, ⟨hv, h0⟩ | ⟨g, cap, cur, hv, hb, hg, _, _, _, htk⟩⟩ := unhide HROW
                · omega
                · cases hv
                  have hc : ∀ j u, (fcs (x, .slice qa m qc))[j]? = some u → j < 2 → W2.cell? ⟨g, k * 2 + j, none⟩ = some u := fun j u hu hj => by
                    have hp := flatF_get Lp k j _ hx hj
                    rw [hu, ← htk, List.getElem?_take, if_pos (by omega)] at hp
                    exact Blk.cell (show Blk W2 g 34 cur from hg) (k * 2 + j) (by simpa using hp)
                  exact ⟨g, rfl, hb, (Array.getElem?_eq_some_iff.1 hg).1, hc 0 _ rfl (by omega), hc 1 _ rfl (by omega)⟩
              obtain ⟨rfl, hgb, hgl, e0, e1⟩ := hgf
              have HGB : Hid (gf ≠ bg) := hide (by have := unhide HLO; omega)
              have HGL := hide hgl
              have HCF : Hid (∀ W, GrownS W2 W (fun k => k = bg) → W.cell? ⟨gf, k * 2, none⟩ = some (.string (BA (ftx x))) ∧ W.cell? ⟨gf, k * 2 + 1, none⟩ = some (.slice qa m qc)) := hide (fun W hW => by
                have hb := hW.block gf hgl (unhide HGB)
                exact ⟨(World.cell?_of_block (w := W2) hb).trans e0, (World.cell?_of_block (w := W2) hb).trans e1⟩)
              have HXF : Hid (∀ W, GrownS W2 W (fun k => k = bg) → QRow W (.slice qa m qc) (fqs x)) := hide (fun W hW => (show OwnQ _ _ _ _ from own_grownS hq hW (fun j hj e => by have h1 := (World.ownsRow.lt hq j hj).1; have h2 := unhide HLO; omega)).form)
              have HTK : Hid (((Lp.map Prod.fst).take (k + 1)).flatten = ((Lp.map Prod.fst).take k).flatten ++ x) := hide (by rw [List.take_add_one, List.getElem?_map, hx]; simp)
              have HML := hide hm
              clear hx hq hm hgb hgl e0 e1
              obtain ⟨G, hG⟩ : ∃ G, G = ((Lp.map Prod.fst).take k).flatten := ⟨_, rfl⟩
              rw [← hG] at HK0 HTK
              have HGN : Hid (G.length + x.length ≤ 3000) := hide (by
                have h1 : (((Lp.map Prod.fst).take (k + 1)).flatten).length ≤ F.length := by
                  rw [← unhide HFF, ← unhide HLp]
                  have h2 := List.take_append_drop (k + 1) (Lp.map Prod.fst)
                  have h3 := congrArg (fun l : List Fd => l.flatten.length) h2
                  simp only [List.flatten_append, List.length_append] at h3
                  omega
                rw [unhide HTK, List.length_append] at h1
                have := unhide HFLN
                omega)
              clear hG
              obtain ⟨d0, d1⟩ := unhide HCF wr (unhide HK0).grown
              have hlt1 : (k : Int) < (nL : Int) := by omega
              have hk0 : (0 : Int) ≤ (k : Int) := by omega
              go_wp2_with fail
              go_quiet (fail)
              go_wp2_with fail
              obtain ⟨wq, hwq⟩ : ∃ x, x = wr.drewN nq := ⟨_, rfl⟩
              have HK : Hid (GI W2 wq bg (ftx G) (fqs G)) := hide (by rw [hwq]; exact (unhide HK0).kept (below_drew _ _))
              rw [← hwq]
              clear hwq HK0 d0 d1
              have HC0 : Hid (wq.cell? ⟨gf, k * 2, none⟩ = some (.string (BA (ftx x)))) := hide (unhide HCF wq (unhide HK).grown).1
              have HGF : Hid (gf < wq.heap.size ∧ gf ≠ bg) := hide ⟨Nat.lt_of_lt_of_le (unhide HGL) (unhide HK).grown.size, unhide HGB⟩
              obtain ⟨c00, f00⟩ : wq.cell? ⟨bg, 0, none⟩ = some (.string (BA (ftx G))) ∧ wq.frozen? ⟨bg, 0, none⟩ = false := by
                obtain ⟨_, hb, _⟩ := (unhide HK).own
                exact ⟨hb.cell 0 rfl, hb.frozen 0⟩
              have hcat : BA (ftx G) ++ BA (ftx x) = BA (ftx (G ++ x)) := by rw [ftx_app]; rfl
              have hgl1 : (ftx G).length ≤ 4000 := by rw [ftx_len]; have := unhide HGN; omega
              have hgl2 : m ≤ 4000 := by rw [unhide HML, fqs_len]; have := unhide HGN; omega
              have HLN : Hid ((fqs G).length + (fqs x).length ≤ 4000) := hide (by rw [fqs_len, fqs_len]; have := unhide HGN; omega)
              refine wp_region_held_drew (S := fun w' => w'.cell? ⟨gf, k * 2, none⟩ = some (.string (BA (ftx x)))) (by kernel_rfl) (by exact unhide HC0) (fun hHeld => ?_)
              refine wpAnyH_take (i := 0) (oi := { dst := some 99, op := Op.fieldAddr 34 (Operand.tmp 9) 0, type := 0, pos := "law.go:114", after := #[], guard := none }) (v := ?_) rfl (by kernel_rfl) (by kernel_rfl) (by kernel_rfl) (fun _ _ _ h => h) (Or.inl ⟨by rfl, ?_⟩) (by assumption) ?_
              rotate_left
              · intro w hSw; (try dsimp only at hSw); go_simp; (try rw [if_neg (by omega)]); (try with_reducible rfl)
              simp only [Act.put, List.setIfInBounds_toArray, List.set_cons_zero, List.set_cons_succ]
              refine wpAnyH_take (i := 2) (oi := { dst := some 101, op := Op.move (Operand.tmp 10), type := 27, pos := "law.go:114", after := #[], guard := none }) (v := ?_) rfl (by kernel_rfl) (by kernel_rfl) (by kernel_rfl) (fun _ _ _ h => h) (Or.inl ⟨by rfl, ?_⟩) (by assumption) ?_
              rotate_left
              · intro w hSw; (try dsimp only at hSw); go_simp; (try rw [if_neg (by omega)]); (try with_reducible rfl)
              simp only [Act.put, List.setIfInBounds_toArray, List.set_cons_zero, List.set_cons_succ]
              refine wpAnyH_take (i := 3) (oi := { dst := some 102, op := Op.move (Operand.tmp 11), type := 3, pos := "law.go:114", after := #[], guard := none }) (v := ?_) rfl (by kernel_rfl) (by kernel_rfl) (by kernel_rfl) (fun _ _ _ h => h) (Or.inl ⟨by rfl, ?_⟩) (by assumption) ?_
              rotate_left
              · intro w hSw; (try dsimp only at hSw); go_simp; (try rw [if_neg (by omega)]); (try with_reducible rfl)
              simp only [Act.put, List.setIfInBounds_toArray, List.set_cons_zero, List.set_cons_succ]
              refine wpAnyH_take (i := 4) (oi := { dst := some 103, op := Op.indexAddr 27 (Operand.tmp 101) (Operand.tmp 102), type := 0, pos := "law.go:114", after := #[{ on := 2, ground := Ground.data }, { on := 3, ground := Ground.data }], guard := none }) (v := ?_) rfl (by kernel_rfl) (by kernel_rfl) (by kernel_rfl) (fun _ _ _ h => h) (Or.inl ⟨by rfl, ?_⟩) (by assumption) ?_
              rotate_left
              · intro w hSw; (try dsimp only at hSw); go_simp; (try rw [if_neg (by omega)]); (try with_reducible rfl)
              simp only [Act.put, List.setIfInBounds_toArray, List.set_cons_zero, List.set_cons_succ]
              refine wpAnyH_take (i := 5) (oi := { dst := some 104, op := Op.fieldAddr 34 (Operand.tmp 103) 0, type := 0, pos := "law.go:114", after := #[{ on := 4, ground := Ground.data }], guard := none }) (v := ?_) rfl (by kernel_rfl) (by kernel_rfl) (by kernel_rfl) (fun _ _ _ h => h) (Or.inl ⟨by rfl, ?_⟩) (by assumption) ?_
              rotate_left
              · intro w hSw; (try dsimp only at hSw); go_simp; (try rw [if_neg (by omega)]); (try with_reducible rfl)
              simp only [Act.put, List.setIfInBounds_toArray, List.set_cons_zero, List.set_cons_succ]
              refine wpAnyH_take (i := 6) (oi := { dst := some 105, op := Op.load 9 (Operand.tmp 104), type := 9, pos := "law.go:114", after := #[{ on := 5, ground := Ground.data }], guard := none }) (v := ?_) rfl (by kernel_rfl) (by kernel_rfl) (by kernel_rfl) (fun _ _ _ h => h) (Or.inl ⟨by rfl, ?_⟩) (by assumption) ?_
              rotate_left
              · intro w hSw; (try dsimp only at hSw); go_simp; (try rw [if_neg (by omega)]); (try with_reducible rfl)
              simp only [Act.put, List.setIfInBounds_toArray, List.set_cons_zero, List.set_cons_succ]
              refine wpAnyH_ready (rs := [1]) (by kernel_rfl) (by simp) ?_
              refine AllReadyH.cons (o := { dst := some 100, op := Op.load 9 (Operand.tmp 99), type := 9, pos := "law.go:114", after := #[{ on := 0, ground := Ground.data }], guard := none }) rfl (fun KK hKK => ?_) AllReadyH.nil
              go_simp
              refine hKK.out _ _ (by exact unhide HC0) (fun hHeld => ?_)
              clear hKK KK
              try simp only [Act.put, List.setIfInBounds_toArray, List.set_cons_zero, List.set_cons_succ]
              refine wpAnyH_take (i := 7) (oi := { dst := some 106, op := Op.binOp BinOp.add 9 (Operand.tmp 100) (Operand.tmp 105) 9, type := 9, pos := "law.go:114", after := #[{ on := 1, ground := Ground.data }, { on := 6, ground := Ground.data }], guard := none }) (v := ?_) rfl (by kernel_rfl) (by kernel_rfl) (by kernel_rfl) (fun _ _ _ h => h) (Or.inl ⟨by rfl, ?_⟩) (by assumption) ?_
              rotate_left
              · intro w hSw; (try dsimp only at hSw); go_simp; (try rw [if_neg (by omega)]); (try with_reducible rfl)
              simp only [Act.put, List.setIfInBounds_toArray, List.set_cons_zero, List.set_cons_succ]
              refine wpAnyH_take (i := 8) (oi := { dst := some 107, op := Op.fieldAddr 34 (Operand.tmp 9) 0, type := 0, pos := "law.go:114", after := #[{ on := 0, ground := Ground.phase }, { on := 1, ground := Ground.phase }, { on := 2, ground := Ground.phase }, { on := 3, ground := Ground.phase }, { on := 4, ground := Ground.phase }, { on := 5, ground := Ground.phase }, { on := 6, ground := Ground.phase }, { on := 7, ground := Ground.phase }], guard := none }) (v := ?_) rfl (by kernel_rfl) (by kernel_rfl) (by kernel_rfl) (fun _ _ _ h => h) (Or.inl ⟨by rfl, ?_⟩) (by assumption) ?_
              rotate_left
              · intro w hSw; (try dsimp only at hSw); go_simp; (try rw [if_neg (by omega)]); (try with_reducible rfl)
              simp only [Act.put, List.setIfInBounds_toArray, List.set_cons_zero, List.set_cons_succ]
              refine wpAnyH_ready (rs := [9]) (by kernel_rfl) (by simp) ?_
              refine AllReadyH.cons (o := { dst := none, op := Op.store 9 (Operand.tmp 107) (Operand.tmp 106), type := 0, pos := "law.go:114", after := #[{ on := 8, ground := Ground.data }, { on := 7, ground := Ground.data }, { on := 0, ground := Ground.phase }, { on := 1, ground := Ground.phase }, { on := 2, ground := Ground.phase }, { on := 3, ground := Ground.phase }, { on := 4, ground := Ground.phase }, { on := 5, ground := Ground.phase }, { on := 6, ground := Ground.phase }, { on := 7, ground := Ground.phase }], guard := none }) rfl (fun KK hKK => ?_) AllReadyH.nil
              go_simp
              have HK4 : Hid (GI W2 (wq.setCell ⟨bg, 0, none⟩ (.string (BA (ftx (G ++ x))))) bg (ftx (G ++ x)) (fqs G)) := hide ((unhide HK).text _)
              have HCS : Hid ((wq.setCell ⟨bg, 0, none⟩ (.string (BA (ftx (G ++ x))))).cell? ⟨gf, k * 2, none⟩ = some (.string (BA (ftx x)))) := hide (by rw [World.cell?_of_block (w := wq) ((setb_grown wq bg 0 _).block gf (unhide HGF).1 (unhide HGF).2)]; exact unhide HC0)
              refine hKK.out _ _ (by exact unhide HCS) (fun hHeld => ?_)
              clear hKK KK
              try simp only [Act.put, List.setIfInBounds_toArray, List.set_cons_zero, List.set_cons_succ]
              clear hHeld
              refine wpAnyH_done (by kernel_rfl) ?_ _
              obtain ⟨w4, hw4⟩ : ∃ y, y = (wq.setCell ⟨bg, 0, none⟩ (.string (BA (ftx (G ++ x))))).drew := ⟨_, rfl⟩
              have HK4' : Hid (GI W2 w4 bg (ftx (G ++ x)) (fqs G)) := hide (by rw [hw4]; exact (unhide HK4).kept (below_drew _ 1))
              have HGF4a : Hid (gf < w4.heap.size) := hide (by rw [hw4]; simpa using (unhide HGF).1)
              rw [← hw4]
              clear hw4 HK4 HCS c00 f00 hcat
              have HK4 := HK4'
              clear HK4'
              obtain ⟨gv, hgv⟩ := (unhide HK4).own
              obtain ⟨ga, gn, gc, rfl⟩ := slice_own hgv.2
              have HGV := hide hgv
              have c41 : w4.cell? ⟨bg, 1, none⟩ = some (.slice ga gn gc) := hgv.1.cell 1 rfl
              have HC4 : Hid (w4.cell? ⟨gf, k * 2 + 1, none⟩ = some (.slice qa m qc)) := hide (unhide HCF w4 (unhide HK4).grown).2
              have HXQ : Hid (QRow w4 (.slice qa m qc) (fqs x)) := hide (unhide HXF w4 (unhide HK4).grown)
              have HGF4 : Hid (gf < w4.heap.size ∧ some gf ≠ Value.ownBlock (.slice ga gn gc)) := hide ⟨unhide HGF4a, fun e => by have h1 := (World.ownsRow.lt hgv.2 gf e.symm).1; have h2 := unhide HGL; omega⟩
              clear hgv
              go_wp2_with fail
              refine wp_region_held_drew (S := fun w' => w'.cell? ⟨gf, k * 2 + 1, none⟩ = some (.slice qa m qc)) (by kernel_rfl) (by exact unhide HC4) (fun hHeld => ?_)
              refine wpAnyH_take (i := 0) (oi := { dst := some 108, op := Op.fieldAddr 34 (Operand.tmp 9) 1, type := 0, pos := "law.go:115", after := #[], guard := none }) (v := ?_) rfl (by kernel_rfl) (by kernel_rfl) (by kernel_rfl) (fun _ _ _ h => h) (Or.inl ⟨by rfl, ?_⟩) (by assumption) ?_
              rotate_left
              · intro w hSw; (try dsimp only at hSw); go_simp; (try rw [if_neg (by omega)]); (try with_reducible rfl)
              simp only [Act.put, List.setIfInBounds_toArray, List.set_cons_zero, List.set_cons_succ]
              refine wpAnyH_take (i := 2) (oi := { dst := some 110, op := Op.move (Operand.tmp 10), type := 27, pos := "law.go:115", after := #[], guard := none }) (v := ?_) rfl (by kernel_rfl) (by kernel_rfl) (by kernel_rfl) (fun _ _ _ h => h) (Or.inl ⟨by rfl, ?_⟩) (by assumption) ?_
              rotate_left
              · intro w hSw; (try dsimp only at hSw); go_simp; (try rw [if_neg (by omega)]); (try with_reducible rfl)
              simp only [Act.put, List.setIfInBounds_toArray, List.set_cons_zero, List.set_cons_succ]
              refine wpAnyH_take (i := 3) (oi := { dst := some 111, op := Op.move (Operand.tmp 11), type := 3, pos := "law.go:115", after := #[], guard := none }) (v := ?_) rfl (by kernel_rfl) (by kernel_rfl) (by kernel_rfl) (fun _ _ _ h => h) (Or.inl ⟨by rfl, ?_⟩) (by assumption) ?_
              rotate_left
              · intro w hSw; (try dsimp only at hSw); go_simp; (try rw [if_neg (by omega)]); (try with_reducible rfl)
              simp only [Act.put, List.setIfInBounds_toArray, List.set_cons_zero, List.set_cons_succ]
              refine wpAnyH_take (i := 4) (oi := { dst := some 112, op := Op.indexAddr 27 (Operand.tmp 110) (Operand.tmp 111), type := 0, pos := "law.go:115", after := #[{ on := 2, ground := Ground.data }, { on := 3, ground := Ground.data }], guard := none }) (v := ?_) rfl (by kernel_rfl) (by kernel_rfl) (by kernel_rfl) (fun _ _ _ h => h) (Or.inl ⟨by rfl, ?_⟩) (by assumption) ?_
              rotate_left
              · intro w hSw; (try dsimp only at hSw); go_simp; (try rw [if_neg (by omega)]); (try with_reducible rfl)
              simp only [Act.put, List.setIfInBounds_toArray, List.set_cons_zero, List.set_cons_succ]
              refine wpAnyH_take (i := 5) (oi := { dst := some 113, op := Op.fieldAddr 34 (Operand.tmp 112) 1, type := 0, pos := "law.go:115", after := #[{ on := 4, ground := Ground.data }], guard := none }) (v := ?_) rfl (by kernel_rfl) (by kernel_rfl) (by kernel_rfl) (fun _ _ _ h => h) (Or.inl ⟨by rfl, ?_⟩) (by assumption) ?_
              rotate_left
              · intro w hSw; (try dsimp only at hSw); go_simp; (try rw [if_neg (by omega)]); (try with_reducible rfl)
              simp only [Act.put, List.setIfInBounds_toArray, List.set_cons_zero, List.set_cons_succ]
              refine wpAnyH_take (i := 6) (oi := { dst := some 114, op := Op.load 32 (Operand.tmp 113), type := 32, pos := "law.go:115", after := #[{ on := 5, ground := Ground.data }], guard := none }) (v := ?_) rfl (by kernel_rfl) (by kernel_rfl) (by kernel_rfl) (fun _ _ _ h => h) (Or.inl ⟨by rfl, ?_⟩) (by assumption) ?_
              rotate_left
              · intro w hSw; (try dsimp only at hSw); go_simp; (try rw [if_neg (by omega)]); (try with_reducible rfl)
              simp only [Act.put, List.setIfInBounds_toArray, List.set_cons_zero, List.set_cons_succ]
              refine wpAnyH_ready (rs := [1]) (by kernel_rfl) (by simp) ?_
              refine AllReadyH.cons (o := { dst := some 109, op := Op.load 32 (Operand.tmp 108), type := 32, pos := "law.go:115", after := #[{ on := 0, ground := Ground.data }], guard := none }) rfl (fun KK hKK => ?_) AllReadyH.nil
              go_simp
              refine hKK.out _ _ (by exact unhide HC4) (fun hHeld => ?_)
              clear hKK KK
              try simp only [Act.put, List.setIfInBounds_toArray, List.set_cons_zero, List.set_cons_succ]
              refine wpAnyH_ready (rs := [7]) (by kernel_rfl) (by simp) ?_
              refine AllReadyH.cons (o := { dst := some 115, op := Op.call { callee := Callee.builtin Builtin.append, args := #[Operand.tmp 109, Operand.tmp 114], argTypes := #[32, 32] }, type := 32, pos := "law.go:115", after := #[{ on := 1, ground := Ground.data }, { on := 6, ground := Ground.data }], guard := none }) rfl (fun KK hKK => ?_) AllReadyH.nil
              refine step_append_q (by rfl) _ _ (by rfl) W2.heap.size (.slice ga gn gc) (fqs G) (by simp [Act.eval]) (own_drew (unhide HGV).2) (.slice qa m qc) (fqs x) (by simp [Act.eval]) ((unhide HXQ).below (below_drew _ 1)) (by have := unhide HLN; omega) (show W2.heap.size ≤ w4.heap.size from (unhide HK4).grown.size) ?_
              intro v5 w5 hown5 hgrow5
              obtain ⟨v5a, v5n, v5c, rfl⟩ := slice_own hown5
              have HG5 : Hid (GrownS w4 w5 (fun k => some k = Value.ownBlock (.slice ga gn gc))) := hide ⟨hgrow5.os, hgrow5.tape, hgrow5.output, hgrow5.size, fun k hk hn => hgrow5.block k hk hn⟩
              have HO5 := hide hown5
              have t0 : w5.cell? ⟨bg, 1, none⟩ = some (.slice ga gn gc) := ((unhide HGV).1.grownS (unhide HG5) (own_type (unhide HGV).2 (unhide HGV).1 (by decide))).cell 1 rfl
              have t1 : w5.frozen? ⟨bg, 1, none⟩ = false := ((unhide HGV).1.grownS (unhide HG5) (own_type (unhide HGV).2 (unhide HGV).1 (by decide))).frozen 1
              have HC5 : Hid (w5.cell? ⟨gf, k * 2 + 1, none⟩ = some (.slice qa m qc)) := hide (by rw [World.cell?_of_block (w := w4) ((unhide HG5).block gf (unhide HGF4).1 (fun e => (unhide HGF4).2 e))]; exact unhide HC4)
              clear hown5 hgrow5
              refine hKK.out _ _ (by exact unhide HC5) (fun hHeld => ?_)
              clear hKK KK
              try simp only [Act.put, List.setIfInBounds_toArray, List.set_cons_zero, List.set_cons_succ]
              refine wpAnyH_take (i := 8) (oi := { dst := some 116, op := Op.fieldAddr 34 (Operand.tmp 9) 1, type := 0, pos := "law.go:115", after := #[{ on := 0, ground := Ground.phase }, { on := 1, ground := Ground.phase }, { on := 2, ground := Ground.phase }, { on := 3, ground := Ground.phase }, { on := 4, ground := Ground.phase }, { on := 5, ground := Ground.phase }, { on := 6, ground := Ground.phase }, { on := 7, ground := Ground.phase }], guard := none }) (v := ?_) rfl (by kernel_rfl) (by kernel_rfl) (by kernel_rfl) (fun _ _ _ h => h) (Or.inl ⟨by rfl, ?_⟩) (by assumption) ?_
              rotate_left
              · intro w hSw; (try dsimp only at hSw); go_simp; (try rw [if_neg (by omega)]); (try with_reducible rfl)
              simp only [Act.put, List.setIfInBounds_toArray, List.set_cons_zero, List.set_cons_succ]
              refine wpAnyH_ready (rs := [9]) (by kernel_rfl) (by simp) ?_
              refine AllReadyH.cons (o := { dst := none, op := Op.store 32 (Operand.tmp 116) (Operand.tmp 115), type := 0, pos := "law.go:115", after := #[{ on := 8, ground := Ground.data }, { on := 7, ground := Ground.data }, { on := 7, ground := Ground.chain }, { on := 0, ground := Ground.phase }, { on := 1, ground := Ground.phase }, { on := 2, ground := Ground.phase }, { on := 3, ground := Ground.phase }, { on := 4, ground := Ground.phase }, { on := 5, ground := Ground.phase }, { on := 6, ground := Ground.phase }, { on := 7, ground := Ground.phase }], guard := none }) rfl (fun KK hKK => ?_) AllReadyH.nil
              go_simp
              have HS5 : Hid ((w5.setCell ⟨bg, 1, none⟩ (.slice v5a v5n v5c)).cell? ⟨gf, k * 2 + 1, none⟩ = some (.slice qa m qc)) := hide (by rw [World.cell?_of_block (w := w5) ((setb_grown w5 bg 1 _).block gf (Nat.lt_of_lt_of_le (unhide HGF4).1 (unhide HG5).size) (unhide HGF).2)]; exact unhide HC5)
              refine hKK.out _ _ (by exact unhide HS5) (fun hHeld => ?_)
              clear hKK KK
              try simp only [Act.put, List.setIfInBounds_toArray, List.set_cons_zero, List.set_cons_succ]
              clear hHeld
              refine wpAnyH_done (by kernel_rfl) ?_ _
              obtain ⟨w6, hw6⟩ : ∃ y, y = w5.setCell ⟨bg, 1, none⟩ (.slice v5a v5n v5c) := ⟨_, rfl⟩
              have HK6 : Hid (GI W2 w6 bg (ftx (G ++ x)) (fqs (G ++ x))) := hide (by rw [hw6, fqs_app]; exact (unhide HK4).push (unhide HGV) (unhide HG5) (unhide HO5))
              rw [← hw6]
              clear hw6 t0 t1 HC5 HS5 HG5 HO5
              go_wp2
              go_roundw
              case rel => exact ⟨k + 1, by go_num, by omega, hide (by rw [unhide HTK]; exact unhide HK6)⟩
              case measure => simp [intOf]; omega
            · have hlt1 : ¬ (k : Int) < (nL : Int) := by omega
              rw [show (Lp.map Prod.fst).take k = Lp.map Prod.fst from List.take_of_length_le (by rw [List.length_map]; have := unhide HnL; omega), unhide HLp, unhide HFF] at HK0
              obtain ⟨gv, hg1, hg2⟩ := (unhide HK0).own
              obtain ⟨wv, hw1, hw2⟩ := (unhide HI2).own
              have kw := hw1.grownS (unhide HK0).grown (unhide HNB).1
              have qw : OwnQ wr w.heap.size wv (fqs F) := own_grownS hw2 (unhide HK0).grown (fun j hj e => own_type hw2 (unhide HBGW) (by decide) (by rw [← e]; exact hj.symm))
              have HBR : Hid (Below w.heap.size w wr) := hide ((unhide HI2).below.trans ((unhide HK0).grown.below (unhide HI2).below.size (fun j e => by rw [e]; exact (unhide HNB).2)))
              obtain ⟨ga, gn, gc, rfl⟩ := slice_own hg2
              obtain ⟨wa, wn, wc, rfl⟩ := slice_own hw2
              have a0 := hg1.cell 0 rfl
              have a1 := hg1.cell 1 rfl
              have b0 := kw.cell 0 rfl
              have b1 := kw.cell 1 rfl
              have HFT : Hid (FRow (wr.alloc (.cells #[.string (BA (ftx F)), .slice ga gn gc, .string (BA (ftx F)), .slice wa wn wc] 34)) (.slice (some ⟨wr.heap.size, 0, none⟩) 2 2) [F, F]) := hide (frow_two wr F _ _ hg2.form qw.form)
              have HPL := hide (plain_two _ F _ (unhide HFT))
              have HSM : Hid (∀ W q1 q2, QRow W q1 (fqs F) → QRow W q2 (fqs F) → Calls Try.prog 16 #[.agg #[.string (BA (ftx F)), q1], .agg #[.string (BA (ftx F)), q2]] W fun e w' => e = .returned (.bool true) ∧ Below W.heap.size W w') := hide (fun W q1 q2 h1 h2 => same_any F q1 q2 W h1 h2 (by have := unhide HFLN; omega))
              clear hg1 hg2 hw1 hw2 kw qw
              go_wp2_with fail
              refine (unhide HPL).mono ?_
              rintro e w7 ⟨g, c7, q1, q2, rfl, hgl, x0, x1, x2, x3, hq1, hq2, b7⟩
              obtain ⟨pa, pn, pc, rfl⟩ := hq1.slice
              obtain ⟨ra, rn, rc, rfl⟩ := hq2.slice
              have HQ1 := hide hq1
              have HQ2 := hide hq2
              have HB7 : Hid (Below w.heap.size w w7) := hide (((unhide HBR).alloc (unhide HBR).size _).trans (b7.mono (by have := (unhide HBR).size; simp; omega)))
              have HZF : Hid (∀ W, Below w7.heap.size w7 W → W.cell? ⟨g, 0, none⟩ = some (.string (BA (ftx F))) ∧ W.cell? ⟨g, 1, none⟩ = some (.slice pa pn pc) ∧ W.cell? ⟨g, 2, none⟩ = some (.string (BA (ftx F))) ∧ W.cell? ⟨g, 3, none⟩ = some (.slice ra rn rc)) := hide (fun W hW => ⟨(hW.cell (p := ⟨g, 0, none⟩) hgl).trans x0, (hW.cell (p := ⟨g, 1, none⟩) hgl).trans x1, (hW.cell (p := ⟨g, 2, none⟩) hgl).trans x2, (hW.cell (p := ⟨g, 3, none⟩) hgl).trans x3⟩)
              clear hgl x0 x1 x2 x3 hq1 hq2 b7 a0 a1 b0 b1
              go_wp2_with fail
              refine wp_region_held_drew (S := fun w' => w'.cell? ⟨g, 0, none⟩ = some (.string (BA (ftx F))) ∧ w'.cell? ⟨g, 1, none⟩ = some (.slice pa pn pc) ∧ w'.cell? ⟨g, 2, none⟩ = some (.string (BA (ftx F))) ∧ w'.cell? ⟨g, 3, none⟩ = some (.slice ra rn rc)) (by kernel_rfl) (by exact unhide HZF _ (below_drew _ 1)) (fun hHeld => ?_)
              refine wpAnyH_take (i := 0) (oi := { dst := some 121, op := Op.move (Operand.tmp 12), type := 25, pos := "law.go:118", after := #[], guard := none }) (v := ?_) rfl (by kernel_rfl) (by kernel_rfl) (by kernel_rfl) (fun _ _ _ h => h) (Or.inl ⟨by rfl, ?_⟩) (by assumption) ?_
              rotate_left
              · intro w hSw; obtain ⟨s0, s1, s2, s3⟩ := hSw; go_simp; (try with_reducible rfl)
              simp only [Act.put, List.setIfInBounds_toArray, List.set_cons_zero, List.set_cons_succ]
              refine wpAnyH_take (i := 1) (oi := { dst := some 122, op := Op.indexAddr 25 (Operand.tmp 121) (Operand.const (Value.int IntKind.i64 0)), type := 0, pos := "law.go:118", after := #[{ on := 0, ground := Ground.data }], guard := none }) (v := ?_) rfl (by kernel_rfl) (by kernel_rfl) (by kernel_rfl) (fun _ _ _ h => h) (Or.inl ⟨by rfl, ?_⟩) (by assumption) ?_
              rotate_left
              · intro w hSw; obtain ⟨s0, s1, s2, s3⟩ := hSw; go_simp; (try with_reducible rfl)
              simp only [Act.put, List.setIfInBounds_toArray, List.set_cons_zero, List.set_cons_succ]
              refine wpAnyH_take (i := 2) (oi := { dst := some 123, op := Op.load 38 (Operand.tmp 122), type := 38, pos := "law.go:118", after := #[{ on := 1, ground := Ground.data }], guard := none }) (v := ?_) rfl (by kernel_rfl) (by kernel_rfl) (by kernel_rfl) (fun _ _ _ h => h) (Or.inl ⟨by rfl, ?_⟩) (by assumption) ?_
              rotate_left
              · intro w hSw; obtain ⟨s0, s1, s2, s3⟩ := hSw; go_simp; (try with_reducible rfl)
              simp only [Act.put, List.setIfInBounds_toArray, List.set_cons_zero, List.set_cons_succ]
              refine wpAnyH_take (i := 3) (oi := { dst := some 124, op := Op.move (Operand.tmp 12), type := 25, pos := "law.go:118", after := #[], guard := none }) (v := ?_) rfl (by kernel_rfl) (by kernel_rfl) (by kernel_rfl) (fun _ _ _ h => h) (Or.inl ⟨by rfl, ?_⟩) (by assumption) ?_
              rotate_left
              · intro w hSw; obtain ⟨s0, s1, s2, s3⟩ := hSw; go_simp; (try with_reducible rfl)
              simp only [Act.put, List.setIfInBounds_toArray, List.set_cons_zero, List.set_cons_succ]
              refine wpAnyH_take (i := 4) (oi := { dst := some 125, op := Op.indexAddr 25 (Operand.tmp 124) (Operand.const (Value.int IntKind.i64 1)), type := 0, pos := "law.go:118", after := #[{ on := 3, ground := Ground.data }], guard := none }) (v := ?_) rfl (by kernel_rfl) (by kernel_rfl) (by kernel_rfl) (fun _ _ _ h => h) (Or.inl ⟨by rfl, ?_⟩) (by assumption) ?_
              rotate_left
              · intro w hSw; obtain ⟨s0, s1, s2, s3⟩ := hSw; go_simp; (try with_reducible rfl)
              simp only [Act.put, List.setIfInBounds_toArray, List.set_cons_zero, List.set_cons_succ]
              refine wpAnyH_take (i := 5) (oi := { dst := some 126, op := Op.load 38 (Operand.tmp 125), type := 38, pos := "law.go:118", after := #[{ on := 4, ground := Ground.data }], guard := none }) (v := ?_) rfl (by kernel_rfl) (by kernel_rfl) (by kernel_rfl) (fun _ _ _ h => h) (Or.inl ⟨by rfl, ?_⟩) (by assumption) ?_
              rotate_left
              · intro w hSw; obtain ⟨s0, s1, s2, s3⟩ := hSw; go_simp; (try with_reducible rfl)
              simp only [Act.put, List.setIfInBounds_toArray, List.set_cons_zero, List.set_cons_succ]
              refine wpAnyH_ready (rs := [6]) (by kernel_rfl) (by simp) ?_
              refine AllReadyH.cons (o := { dst := some 127, op := Op.call { callee := Callee.value (Operand.func 16), args := #[Operand.tmp 123, Operand.tmp 126], argTypes := #[38, 38] }, type := 4, pos := "law.go:118", after := #[{ on := 2, ground := Ground.data }, { on := 5, ground := Ground.data }], guard := none }) rfl (fun KK hKK => ?_) AllReadyH.nil
              go_simp
              refine (unhide HSM _ _ _ ((unhide HQ1).below (below_drew _ 1)) ((unhide HQ2).below (below_drew _ 1))).mono ?_
              rintro e w8 ⟨rfl, b8⟩
              have HB8 := hide (end_below b8)
              have HZ8 := hide (unhide HZF w8 (end_below b8))
              clear b8
              refine hKK.out _ _ (by exact unhide HZ8) (fun hHeld => ?_)
              clear hKK KK
              try simp only [Act.put, List.setIfInBounds_toArray, List.set_cons_zero, List.set_cons_succ]
              refine wpAnyH_take (i := 7) (oi := { dst := some 128, op := Op.move (Operand.tmp 127), type := 4, pos := "law.go:118", after := #[{ on := 6, ground := Ground.data }, { on := 6, ground := Ground.chain }], guard := none }) (v := ?_) rfl (by kernel_rfl) (by kernel_rfl) (by kernel_rfl) (fun _ _ _ h => h) (Or.inl ⟨by rfl, ?_⟩) (by assumption) ?_
              rotate_left
              · intro w hSw; obtain ⟨s0, s1, s2, s3⟩ := hSw; go_simp; (try with_reducible rfl)
              simp only [Act.put, List.setIfInBounds_toArray, List.set_cons_zero, List.set_cons_succ]
              refine wpAnyH_ready (rs := [8]) (by kernel_rfl) (by simp) ?_
              refine AllReadyH.cons (o := { dst := some 129, op := Op.call { callee := Callee.value (Operand.func 9), args := #[], argTypes := #[] }, type := 4, pos := "law.go:118", after := #[{ on := 7, ground := Ground.chain }, { on := 7, ground := Ground.guard }], guard := some (7, true) }) rfl (fun KK hKK => ?_) AllReadyH.nil
              go_simp
              refine (unhide HAW _ ((unhide HB7).trans ((unhide HB8).mono (unhide HB7).size))).mono ?_
              rintro e w9 ⟨rfl, b9, k9⟩
              have HZ9 := hide (unhide HZF w9 ((unhide HB8).trans (k9.mono (unhide HB8).size)))
              have HB9 := hide b9
              clear b9 k9
              refine hKK.out _ _ (by exact unhide HZ9) (fun hHeld => ?_)
              clear hKK KK
              try simp only [Act.put, List.setIfInBounds_toArray, List.set_cons_zero, List.set_cons_succ]
              refine wpAnyH_take (i := 9) (oi := { dst := some 130, op := Op.pick (Operand.tmp 128) (Operand.tmp 129) (Operand.const (Value.bool false)), type := 4, pos := "law.go:118", after := #[{ on := 7, ground := Ground.data }, { on := 8, ground := Ground.data }], guard := none }) (v := ?_) rfl (by kernel_rfl) (by kernel_rfl) (by kernel_rfl) (fun _ _ _ h => h) (Or.inl ⟨by rfl, ?_⟩) (by assumption) ?_
              rotate_left
              · intro w hSw; obtain ⟨s0, s1, s2, s3⟩ := hSw; go_simp; (try with_reducible rfl)
              simp only [Act.put, List.setIfInBounds_toArray, List.set_cons_zero, List.set_cons_succ]
              refine wpAnyH_take (i := 10) (oi := { dst := some 4, op := Op.assign (Operand.tmp 130), type := 4, pos := "law.go:118", after := #[{ on := 9, ground := Ground.data }, { on := 8, ground := Ground.chain }, { on := 0, ground := Ground.phase }, { on := 1, ground := Ground.phase }, { on := 2, ground := Ground.phase }, { on := 3, ground := Ground.phase }, { on := 4, ground := Ground.phase }, { on := 5, ground := Ground.phase }, { on := 6, ground := Ground.phase }, { on := 7, ground := Ground.phase }, { on := 8, ground := Ground.phase }, { on := 9, ground := Ground.phase }], guard := none }) (v := ?_) rfl (by kernel_rfl) (by kernel_rfl) (by kernel_rfl) (fun _ _ _ h => h) (Or.inl ⟨by rfl, ?_⟩) (by assumption) ?_
              rotate_left
              · intro w hSw; obtain ⟨s0, s1, s2, s3⟩ := hSw; go_simp; (try with_reducible rfl)
              simp only [Act.put, List.setIfInBounds_toArray, List.set_cons_zero, List.set_cons_succ]
              clear hHeld
              refine wpAnyH_done (by kernel_rfl) ?_ _
              go_wp2
              go_ret
              exact ⟨rfl, unhide HB9⟩
    · go_enter Try.func5, Try.ntmps5
      go_wp2_with fail
      refine (unhide HFW).mono ?_
      rintro e w1 ⟨rfl, hw1⟩
      rw [show w1 = w from hw1]
      clear hw1
      go_wp2_with fail
      refine (unhide HAW _ (Below.refl _ _)).mono ?_
      rintro e w2 ⟨rfl, b2, _⟩
      have HB2 := hide b2
      clear b2
      go_wp2
      go_ret
      exact ⟨rfl, unhide HB2⟩

end Go.Proofs.Ytpljphbaibncjaa
