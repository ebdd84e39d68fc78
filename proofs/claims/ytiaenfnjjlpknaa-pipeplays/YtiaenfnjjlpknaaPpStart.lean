/-
  Stage 15: what all laws of this seat share: the program's own facts; what the arguments read as.
-/
import Derived.Test.YtiaenfnjjlpknaaSFrame
import Derived.Test.YtiaenfnjjlpknaaPpAwk
import Derived.Deep.Slices
import Derived.SliceStrings
namespace Go.Proofs.Ytiaenfnjjlpknaa
open Go.ChangeShapes Go.WideShapes Go.ChangeAt Go.RowKit

theorem own : ownKnob Try.prog.godebug = none := by kernel_rfl
theorem laidOut : laidOutB Try.prog = true := by kernel_rfl
theorem read_of {P : Program} {ts : List TypeId} (h : (ts.all fun t => P.readableRec t && decide (t < P.types.size)) = true) : ∀ t ∈ ts, P.readableRec t = true ∧ t < P.types.size := by
  intro t ht
  have := List.all_eq_true.1 h t ht
  simpa using this
theorem cells9 : Try.prog.cellsOf 9 = 1 := by kernel_rfl
theorem cells4 : Try.prog.cellsOf 4 = 1 := by kernel_rfl
theorem cells3 : Try.prog.cellsOf 3 = 1 := by kernel_rfl
theorem cell_lt {W : World} {p : Addr} {v : Value} (h : W.cell? p = some v) : p.block < W.heap.size := by
  rcases Nat.lt_or_ge p.block W.heap.size with h' | h'
  · exact h'
  · unfold World.cell? at h
    rw [Array.getElem?_eq_none h'] at h
    cases h
theorem add_at2 (b o j : Nat) : ((⟨b, o, none⟩ : Addr).add j) = ⟨b, o + j, none⟩ := by
  by_cases h : j = 0
  · subst h; simp [Addr.add]
  · simp [Addr.add, h]
variable {H : Type} {enc : TypeId × Value → H}

/-- A call of the law's: 0 Read, 1 Write, 2 Join, else Leave. -/
structure Op15 where
  ask : Int
  n : Int
  data : List UInt8
def Op15.ok (o : Op15) : Prop := I64 o.ask ∧ I64 o.n
def OCell (w : World) (g k : Nat) (o : Op15) : Prop := w.cell? ⟨g, k, none⟩ = some (.int .i64 o.ask) ∧ w.cell? ⟨g, k + 1, none⟩ = some (.int .i64 o.n) ∧ w.cell? ⟨g, k + 2, none⟩ = some (.string (BA o.data))
/-- A slice of calls. -/
def ORow (w : World) (v : Value) (l : List Op15) : Prop := ∃ ad cap, v = .slice ad l.length cap ∧ ∀ (i : Nat) (x : Op15), l[i]? = some x → (∃ g o, ad = some ⟨g, o, none⟩ ∧ g < w.heap.size ∧ OCell w g (o + i * 3) x) ∧ x.ok
theorem cellsO : Try.prog.cellsOf 28 = 3 := by kernel_rfl
theorem i64_of {x : Int} (h : (Lit.int .i64 x).wf = true) : I64 x := bounds_i64 h
/-- A slice of calls that came in. -/
theorem opsrow_of {W : World} {v : Value} {d : DataW H} {p : List MemPlace} (hok : ∃ a len cap, v = .slice a len cap) (h : DataW.Trod enc Try.prog W 0 (fun _ => true) true 22 v d p) : ∃ l, ORow W v l ∧ l.length ≤ maxLen := by
  obtain ⟨a0, len0, cap0, rfl⟩ := hok
  obtain ⟨fuel, h⟩ := h
  rcases Deep.open_slice Try.underlying22 h with ⟨h0, _⟩ | ⟨a, len, cap, m, n, D, Pl, hcs, _, hl, hm, hmm, _, hx⟩
  · simp [Value.cells] at h0
    obtain ⟨rfl, rfl, rfl⟩ := h0
    exact ⟨[], ⟨none, 0, rfl, fun i x hi => by simp at hi⟩, Nat.zero_le _⟩
  · simp [Value.cells] at hcs
    obtain ⟨rfl, rfl, rfl⟩ := hcs
    rw [if_pos rfl] at hmm
    subst hmm
    by_cases h0 : len0 = 0
    · subst h0
      exact ⟨[], ⟨some a, m, rfl, fun i x hi => by simp at hi⟩, Nat.zero_le _⟩
    have each : ∀ i, ∃ y : Op15, i < len0 → (W.cell? (a.add (i * 3)) = some (.int .i64 y.ask) ∧ W.cell? (a.add (i * 3 + 1)) = some (.int .i64 y.n) ∧ W.cell? (a.add (i * 3 + 2)) = some (.string (BA y.data))) ∧ y.ok := by
      intro i
      by_cases hi : i < len0
      · obtain ⟨cs, h1, h2⟩ := hx i (by omega)
        rw [cellsO] at h1
        obtain ⟨_, hlen, hcell⟩ := World.cells?_some h1
        obtain ⟨xs, k, hk, hxy, _, hxl, hf⟩ := DataW.trod_struct Try.underlying28 h2
        match xs, hxl, cs, hlen with
        | [y0, y1, y2], _, [v0, v1, v2], _ =>
          have g0 := hf 0 _ rfl
          have g1 := hf 1 _ rfl
          have g2 := hf 2 _ rfl
          simp [cells9, cells3] at g0 g1 g2
          have e0 := hcell 0 (by omega)
          have e1 := hcell 1 (by omega)
          have e2 := hcell 2 (by omega)
          rw [Deep.add_add] at e0 e1 e2
          obtain ⟨z0, hz0, _, hy0⟩ := DataW.trod_int Try.underlying3 g0
          obtain ⟨z1, hz1, _, hy1⟩ := DataW.trod_int Try.underlying3 g1
          obtain ⟨z2, hz2, _⟩ := DataW.trod_string Try.underlying9 g2
          simp at hz0 hz1 hz2
          subst hz0 hz1 hz2
          exact ⟨⟨z0, z1, z2.data.toList⟩, fun _ => ⟨⟨by simpa using e0, by simpa using e1, by simpa [BA_of] using e2⟩, i64_of hy0, i64_of hy1⟩⟩
      · exact ⟨⟨0, 0, []⟩, fun h => absurd h hi⟩
    obtain ⟨R, hR⟩ : ∃ R : Nat → Op15, ∀ i, i < len0 → (W.cell? (a.add (i * 3)) = some (.int .i64 (R i).ask) ∧ W.cell? (a.add (i * 3 + 1)) = some (.int .i64 (R i).n) ∧ W.cell? (a.add (i * 3 + 2)) = some (.string (BA (R i).data))) ∧ (R i).ok := ⟨fun i => Classical.choose (each i), fun i => Classical.choose_spec (each i)⟩
    obtain ⟨b, o, spot⟩ := a
    have hspot : spot = none := by simpa [Addr.add] using World.cell?_spot (hR 0 (by omega)).1.1
    subst hspot
    refine ⟨(List.range len0).map R, ⟨some ⟨b, o, none⟩, m, by simp, fun j x hj => ?_⟩, by simp; omega⟩
    rw [List.getElem?_map] at hj
    obtain ⟨y, hy, rfl⟩ := Option.map_eq_some_iff.1 hj
    obtain ⟨hj', e⟩ := List.getElem?_eq_some_iff.1 hy
    simp at hj' e
    subst e
    have := hR j hj'
    rw [add_at2, add_at2, add_at2] at this
    exact ⟨⟨b, o, rfl, cell_lt this.1.1, this.1⟩, this.2⟩

end Go.Proofs.Ytiaenfnjjlpknaa
