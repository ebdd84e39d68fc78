/-
  What all laws of this seat share: the program's own facts; what the arguments read as.
-/
import Derived.Test.YtcfhgjlihifmnaaSFrame
import Derived.Test.YtcfhgjlihifmnaaIHeld
import Derived.Deep.Slices
import Derived.SliceStrings
namespace Go.Proofs.Ytcfhgjlihifmnaa
open Go.ChangeShapes Go.WideShapes Go.ChangeAt Go.RowKit

theorem own : ownKnob Try.prog.godebug = none := by kernel_rfl
theorem laidOut : laidOutB Try.prog = true := by kernel_rfl
theorem read_of {P : Program} {ts : List TypeId} (h : (ts.all fun t => P.readableRec t && decide (t < P.types.size)) = true) : ∀ t ∈ ts, P.readableRec t = true ∧ t < P.types.size := by
  intro t ht
  have := List.all_eq_true.1 h t ht
  simpa using this
theorem cells9 : Try.prog.cellsOf 9 = 1 := by kernel_rfl
theorem cells4 : Try.prog.cellsOf 4 = 1 := by kernel_rfl
theorem cells3 : Try.prog.cellsOf 3 = 1 := by kernel_rfl
theorem cell_lt {W : World} {p : Addr} {v : Value} (h : W.cell? p = some v) : p.block < W.heap.size := by
  rcases Nat.lt_or_ge p.block W.heap.size with h' | h'
  · exact h'
  · unfold World.cell? at h
    rw [Array.getElem?_eq_none h'] at h
    cases h
theorem add_at2 (b o j : Nat) : ((⟨b, o, none⟩ : Addr).add j) = ⟨b, o + j, none⟩ := by
  by_cases h : j = 0
  · subst h; simp [Addr.add]
  · simp [Addr.add, h]
variable {H : Type} {enc : TypeId × Value → H}

/-- A call of the law's. -/
structure Op12 where
  ask : Int
  b : Int
  at' : Int
  n : Int
  data : List UInt8
def I64 (x : Int) : Prop := -9223372036854775808 ≤ x ∧ x ≤ 9223372036854775807
def Op12.ok (o : Op12) : Prop := I64 o.ask ∧ I64 o.b ∧ I64 o.at' ∧ I64 o.n
def OCell (w : World) (g k : Nat) (o : Op12) : Prop := w.cell? ⟨g, k, none⟩ = some (.int .i64 o.ask) ∧ w.cell? ⟨g, k + 1, none⟩ = some (.int .i64 o.b) ∧ w.cell? ⟨g, k + 2, none⟩ = some (.int .i64 o.at') ∧ w.cell? ⟨g, k + 3, none⟩ = some (.int .i64 o.n) ∧ w.cell? ⟨g, k + 4, none⟩ = some (.string (BA o.data))
/-- A slice of calls. -/
def ORow (w : World) (v : Value) (l : List Op12) : Prop := ∃ ad cap, v = .slice ad l.length cap ∧ ∀ (i : Nat) (x : Op12), l[i]? = some x → (∃ g o, ad = some ⟨g, o, none⟩ ∧ g < w.heap.size ∧ OCell w g (o + i * 5) x) ∧ x.ok
theorem cellsO : Try.prog.cellsOf 33 = 5 := by kernel_rfl
theorem i64_of {x : Int} (h : (Lit.int .i64 x).wf = true) : I64 x := bounds_i64 h
/- A slice of calls that came in. -/
set_option maxRecDepth 100000 in
theorem opsrow_of {W : World} {v : Value} {d : DataW H} {p : List MemPlace} (hok : ∃ a len cap, v = .slice a len cap) (h : DataW.Trod enc Try.prog W 0 (fun _ => true) true 23 v d p) : ∃ l, ORow W v l ∧ l.length ≤ maxLen := by
  obtain ⟨a0, len0, cap0, rfl⟩ := hok
  obtain ⟨fuel, h⟩ := h
  rcases Deep.open_slice Try.underlying23 h with ⟨h0, _⟩ | ⟨a, len, cap, m, n, D, Pl, hcs, _, hl, hm, hmm, _, hx⟩
  · simp [Value.cells] at h0
    obtain ⟨rfl, rfl, rfl⟩ := h0
    exact ⟨[], ⟨none, 0, rfl, fun i x hi => by simp at hi⟩, Nat.zero_le _⟩
  · simp [Value.cells] at hcs
    obtain ⟨rfl, rfl, rfl⟩ := hcs
    rw [if_pos rfl] at hmm
    subst hmm
    by_cases h0 : len0 = 0
    · subst h0
      exact ⟨[], ⟨some a, m, rfl, fun i x hi => by simp at hi⟩, Nat.zero_le _⟩
    have each : ∀ i, ∃ y : Op12, i < len0 → (W.cell? (a.add (i * 5)) = some (.int .i64 y.ask) ∧ W.cell? (a.add (i * 5 + 1)) = some (.int .i64 y.b) ∧ W.cell? (a.add (i * 5 + 2)) = some (.int .i64 y.at') ∧ W.cell? (a.add (i * 5 + 3)) = some (.int .i64 y.n) ∧ W.cell? (a.add (i * 5 + 4)) = some (.string (BA y.data))) ∧ y.ok := by
      intro i
      by_cases hi : i < len0
      · obtain ⟨cs, h1, h2⟩ := hx i (by omega)
        rw [cellsO] at h1
        obtain ⟨_, hlen, hcell⟩ := World.cells?_some h1
        obtain ⟨xs, k, hk, hxy, _, hxl, hf⟩ := DataW.trod_struct Try.underlying33 h2
        match xs, hxl, cs, hlen with
        | [y0, y1, y2, y3, y4], _, [v0, v1, v2, v3, v4], _ =>
          have g0 := hf 0 _ rfl
          have g1 := hf 1 _ rfl
          have g2 := hf 2 _ rfl
          have g3 := hf 3 _ rfl
          have g4 := hf 4 _ rfl
          simp [cells9, cells3] at g0 g1 g2 g3 g4
          have e0 := hcell 0 (by omega)
          have e1 := hcell 1 (by omega)
          have e2 := hcell 2 (by omega)
          have e3 := hcell 3 (by omega)
          have e4 := hcell 4 (by omega)
          rw [Deep.add_add] at e0 e1 e2 e3 e4
          obtain ⟨z0, hz0, _, hy0⟩ := DataW.trod_int Try.underlying3 g0
          obtain ⟨z1, hz1, _, hy1⟩ := DataW.trod_int Try.underlying3 g1
          obtain ⟨z2, hz2, _, hy2⟩ := DataW.trod_int Try.underlying3 g2
          obtain ⟨z3, hz3, _, hy3⟩ := DataW.trod_int Try.underlying3 g3
          obtain ⟨z4, hz4, _⟩ := DataW.trod_string Try.underlying9 g4
          simp at hz0 hz1 hz2 hz3 hz4
          subst hz0 hz1 hz2 hz3 hz4
          exact ⟨⟨z0, z1, z2, z3, z4.data.toList⟩, fun _ => ⟨⟨by simpa using e0, by simpa using e1, by simpa using e2, by simpa using e3, by simpa [BA_of] using e4⟩, i64_of hy0, i64_of hy1, i64_of hy2, i64_of hy3⟩⟩
      · exact ⟨⟨0, 0, 0, 0, []⟩, fun h => absurd h hi⟩
    obtain ⟨R, hR⟩ : ∃ R : Nat → Op12, ∀ i, i < len0 → (W.cell? (a.add (i * 5)) = some (.int .i64 (R i).ask) ∧ W.cell? (a.add (i * 5 + 1)) = some (.int .i64 (R i).b) ∧ W.cell? (a.add (i * 5 + 2)) = some (.int .i64 (R i).at') ∧ W.cell? (a.add (i * 5 + 3)) = some (.int .i64 (R i).n) ∧ W.cell? (a.add (i * 5 + 4)) = some (.string (BA (R i).data))) ∧ (R i).ok := ⟨fun i => Classical.choose (each i), fun i => Classical.choose_spec (each i)⟩
    obtain ⟨b, o, spot⟩ := a
    have hspot : spot = none := by simpa [Addr.add] using World.cell?_spot (hR 0 (by omega)).1.1
    subst hspot
    refine ⟨(List.range len0).map R, ⟨some ⟨b, o, none⟩, m, by simp, fun j x hj => ?_⟩, by simp; omega⟩
    rw [List.getElem?_map] at hj
    obtain ⟨y, hy, rfl⟩ := Option.map_eq_some_iff.1 hj
    obtain ⟨hj', e⟩ := List.getElem?_eq_some_iff.1 hy
    simp at hj' e
    subst e
    have := hR j hj'
    rw [add_at2, add_at2, add_at2, add_at2, add_at2] at this
    exact ⟨⟨b, o, rfl, cell_lt this.1.1, this.1⟩, this.2⟩
/- One call that came in. -/
set_option maxRecDepth 100000 in
theorem op_of {W : World} {v : Value} {d : DataW H} {p : List MemPlace} (h : DataW.Trod enc Try.prog W 0 (fun _ => true) true 33 v d p) (hv : ∃ cs, v = .agg cs ∧ cs.size = Try.prog.cellsOf 33) : ∃ o : Op12, v = .agg #[.int .i64 o.ask, .int .i64 o.b, .int .i64 o.at', .int .i64 o.n, .string (BA o.data)] ∧ o.ok := by
  obtain ⟨⟨cs⟩, rfl, hsz⟩ := hv
  rw [cellsO] at hsz
  obtain ⟨fuel, h⟩ := h
  obtain ⟨xs, k, hk, hxy, _, hxl, hf⟩ := DataW.trod_struct Try.underlying33 h
  match xs, hxl, cs, hsz with
  | [y0, y1, y2, y3, y4], _, [v0, v1, v2, v3, v4], _ =>
    have g0 := hf 0 _ rfl
    have g1 := hf 1 _ rfl
    have g2 := hf 2 _ rfl
    have g3 := hf 3 _ rfl
    have g4 := hf 4 _ rfl
    simp [cells9, cells3, Value.cells] at g0 g1 g2 g3 g4
    obtain ⟨z0, hz0, _, hy0⟩ := DataW.trod_int Try.underlying3 g0
    obtain ⟨z1, hz1, _, hy1⟩ := DataW.trod_int Try.underlying3 g1
    obtain ⟨z2, hz2, _, hy2⟩ := DataW.trod_int Try.underlying3 g2
    obtain ⟨z3, hz3, _, hy3⟩ := DataW.trod_int Try.underlying3 g3
    obtain ⟨z4, hz4, _⟩ := DataW.trod_string Try.underlying9 g4
    simp at hz0 hz1 hz2 hz3 hz4
    subst hz0 hz1 hz2 hz3 hz4
    exact ⟨⟨z0, z1, z2, z3, z4.data.toList⟩, rfl, i64_of hy0, i64_of hy1, i64_of hy2, i64_of hy3⟩

/-- Two numbers. -/
theorem okWide_array {P : Program} {w : World} {r : Reach} {base : Nat} {t e : TypeId} {n : Nat} {v : Value} (ht : P.underlying t = some (.array n e)) (h : Value.okWide P w r base t v) : ∃ cs, v = .agg cs ∧ cs.size = P.cellsOf t := by
  simp only [Value.okWide, ht] at h
  obtain ⟨cs, h1, h2, _⟩ := h
  exact ⟨cs, h1, h2⟩
theorem cells2 : Try.prog.cellsOf 22 = 2 := by kernel_rfl
set_option maxRecDepth 100000 in
theorem two_of {W : World} {v : Value} {d : DataW H} {p : List MemPlace} (h : DataW.Trod enc Try.prog W 0 (fun _ => true) true 22 v d p) (hv : ∃ cs, v = .agg cs ∧ cs.size = Try.prog.cellsOf 22) : ∃ a b : Int, v = .agg #[.int .i64 a, .int .i64 b] ∧ I64 a ∧ I64 b := by
  obtain ⟨⟨cs⟩, rfl, hsz⟩ := hv
  rw [cells2] at hsz
  obtain ⟨fuel, h⟩ := h
  obtain ⟨xs, k, hk, hxy, _, hxl, hf⟩ := DataW.trod_array Try.underlying22 h
  match xs, hxl, cs, hsz with
  | [y0, y1], _, [v0, v1], _ =>
    have g0 := hf 0 (by decide)
    have g1 := hf 1 (by decide)
    simp [cells3, Value.cells] at g0 g1
    obtain ⟨z0, hz0, _, hy0⟩ := DataW.trod_int Try.underlying3 g0
    obtain ⟨z1, hz1, _, hy1⟩ := DataW.trod_int Try.underlying3 g1
    simp at hz0 hz1
    subst hz0 hz1
    exact ⟨z0, z1, rfl, i64_of hy0, i64_of hy1⟩

end Go.Proofs.Ytcfhgjlihifmnaa
