/-
  What all laws of this seat share: the program's own facts; what the arguments read as.
-/
import Derived.Test.YtpljphbaibncjaaSFrame
import Derived.Test.YtpljphbaibncjaaSAwake
import Derived.Deep.Slices
import Derived.SliceStrings
namespace Go.Proofs.Ytpljphbaibncjaa
open Go.ChangeShapes Go.WideShapes Go.ChangeAt Go.RowKit

theorem own : ownKnob Try.prog.godebug = none := by kernel_rfl
theorem laidOut : laidOutB Try.prog = true := by kernel_rfl
theorem read_of {P : Program} {ts : List TypeId} (h : (ts.all fun t => P.readableRec t && decide (t < P.types.size)) = true) : ∀ t ∈ ts, P.readableRec t = true ∧ t < P.types.size := by
  intro t ht
  have := List.all_eq_true.1 h t ht
  simpa using this
theorem cellsP : Try.prog.cellsOf 42 = 4 := by kernel_rfl
theorem cells9 : Try.prog.cellsOf 9 = 1 := by kernel_rfl
theorem cells4 : Try.prog.cellsOf 4 = 1 := by kernel_rfl
theorem cells3 : Try.prog.cellsOf 3 = 1 := by kernel_rfl
theorem cell_lt {W : World} {p : Addr} {v : Value} (h : W.cell? p = some v) : p.block < W.heap.size := by
  rcases Nat.lt_or_ge p.block W.heap.size with h' | h'
  · exact h'
  · unfold World.cell? at h
    rw [Array.getElem?_eq_none h'] at h
    cases h
theorem add_at2 (b o j : Nat) : ((⟨b, o, none⟩ : Addr).add j) = ⟨b, o + j, none⟩ := by
  by_cases h : j = 0
  · subst h; simp [Addr.add]
  · simp [Addr.add, h]
variable {H : Type} {enc : TypeId × Value → H}

/-- A slice of pieces that came in. -/
theorem pieces_of {W : World} {v : Value} {d : DataW H} {p : List MemPlace} (hok : ∃ a len cap, v = .slice a len cap) (h : DataW.Trod enc Try.prog W 0 (fun _ => true) true 22 v d p) : ∃ l, PRow W v l ∧ l.length ≤ maxLen := by
  obtain ⟨a0, len0, cap0, rfl⟩ := hok
  obtain ⟨fuel, h⟩ := h
  rcases Deep.open_slice Try.underlying22 h with ⟨h0, _⟩ | ⟨a, len, cap, m, n, D, Pl, hcs, _, hl, hm, hmm, _, hx⟩
  · simp [Value.cells] at h0
    obtain ⟨rfl, rfl, rfl⟩ := h0
    exact ⟨[], ⟨none, 0, rfl, fun i x hi => by simp at hi⟩, Nat.zero_le _⟩
  · simp [Value.cells] at hcs
    obtain ⟨rfl, rfl, rfl⟩ := hcs
    rw [if_pos rfl] at hmm
    subst hmm
    by_cases h0 : len0 = 0
    · subst h0
      exact ⟨[], ⟨some a, m, rfl, fun i x hi => by simp at hi⟩, Nat.zero_le _⟩
    have each : ∀ i, ∃ y : Pc, i < len0 → W.cell? (a.add (i * 4)) = some (.string (BA y.text)) ∧ W.cell? (a.add (i * 4 + 1)) = some (.bool y.q) ∧ W.cell? (a.add (i * 4 + 2)) = some (.bool y.s) ∧ W.cell? (a.add (i * 4 + 3)) = some (.bool y.b) := by
      intro i
      by_cases hi : i < len0
      · obtain ⟨cs, h1, h2⟩ := hx i (by omega)
        rw [cellsP] at h1
        obtain ⟨_, hlen, hcell⟩ := World.cells?_some h1
        obtain ⟨xs, k, hk, hxy, _, hxl, hf⟩ := DataW.trod_struct Try.underlying42 h2
        match xs, hxl, cs, hlen with
        | [y0, y1, y2, y3], _, [v0, v1, v2, v3], _ =>
          have g0 := hf 0 _ rfl
          have g1 := hf 1 _ rfl
          have g2 := hf 2 _ rfl
          have g3 := hf 3 _ rfl
          simp [cells9, cells4] at g0 g1 g2 g3
          have e0 := hcell 0 (by omega)
          have e1 := hcell 1 (by omega)
          have e2 := hcell 2 (by omega)
          have e3 := hcell 3 (by omega)
          rw [Deep.add_add] at e0 e1 e2 e3
          obtain ⟨z0, hz0, _⟩ := DataW.trod_string Try.underlying9 g0
          obtain ⟨z1, hz1, _⟩ := DataW.trod_bool Try.underlying4 g1
          obtain ⟨z2, hz2, _⟩ := DataW.trod_bool Try.underlying4 g2
          obtain ⟨z3, hz3, _⟩ := DataW.trod_bool Try.underlying4 g3
          simp at hz0 hz1 hz2 hz3
          subst hz0 hz1 hz2 hz3
          exact ⟨⟨z0.data.toList, z1, z2, z3⟩, fun _ => ⟨by simpa [BA_of] using e0, by simpa using e1, by simpa using e2, by simpa using e3⟩⟩
      · exact ⟨⟨[], false, false, false⟩, fun h => absurd h hi⟩
    obtain ⟨R, hR⟩ : ∃ R : Nat → Pc, ∀ i, i < len0 → W.cell? (a.add (i * 4)) = some (.string (BA (R i).text)) ∧ W.cell? (a.add (i * 4 + 1)) = some (.bool (R i).q) ∧ W.cell? (a.add (i * 4 + 2)) = some (.bool (R i).s) ∧ W.cell? (a.add (i * 4 + 3)) = some (.bool (R i).b) := ⟨fun i => Classical.choose (each i), fun i => Classical.choose_spec (each i)⟩
    obtain ⟨b, o, spot⟩ := a
    have hspot : spot = none := by simpa [Addr.add] using World.cell?_spot (hR 0 (by omega)).1
    subst hspot
    refine ⟨(List.range len0).map R, ⟨some ⟨b, o, none⟩, m, by simp, fun j x hj => ?_⟩, by simp; omega⟩
    rw [List.getElem?_map] at hj
    obtain ⟨y, hy, rfl⟩ := Option.map_eq_some_iff.1 hj
    obtain ⟨hj', e⟩ := List.getElem?_eq_some_iff.1 hy
    simp at hj' e
    subst e
    have := hR j hj'
    rw [add_at2, add_at2, add_at2, add_at2] at this
    exact ⟨b, o, rfl, cell_lt this.1, this⟩

/-- A slice of texts. -/
def TRow (w : World) (v : Value) (l : List (List UInt8)) : Prop := ∃ ad cap, v = .slice ad l.length cap ∧ ∀ (i : Nat) (x : List UInt8), l[i]? = some x → ∃ g o, ad = some ⟨g, o, none⟩ ∧ g < w.heap.size ∧ w.cell? ⟨g, o + i, none⟩ = some (.string (BA x))
theorem TRow.below {w w' : World} {v : Value} {l : List (List UInt8)} (h : TRow w v l) (hb : Below w.heap.size w w') : TRow w' v l := by
  obtain ⟨ad, cap, rfl, h⟩ := h
  refine ⟨ad, cap, rfl, fun i x hi => ?_⟩
  obtain ⟨g, o, rfl, hg, c0⟩ := h i x hi
  exact ⟨g, o, rfl, Nat.lt_of_lt_of_le hg hb.size, (hb.cell (p := ⟨g, _, none⟩) hg).trans c0⟩
theorem texts_of {W : World} {v : Value} {d : DataW H} {p : List MemPlace} (hok : ∃ a len cap, v = .slice a len cap) (h : DataW.Trod enc Try.prog W 0 (fun _ => true) true 44 v d p) : ∃ l, TRow W v l ∧ l.length ≤ maxLen := by
  obtain ⟨a0, len0, cap0, rfl⟩ := hok
  obtain ⟨fuel, h⟩ := h
  rcases Deep.open_slice Try.underlying44 h with ⟨h0, _⟩ | ⟨a, len, cap, m, n, D, Pl, hcs, _, hl, hm, hmm, _, hx⟩
  · simp [Value.cells] at h0
    obtain ⟨rfl, rfl, rfl⟩ := h0
    exact ⟨[], ⟨none, 0, rfl, fun i x hi => by simp at hi⟩, Nat.zero_le _⟩
  · simp [Value.cells] at hcs
    obtain ⟨rfl, rfl, rfl⟩ := hcs
    rw [if_pos rfl] at hmm
    subst hmm
    by_cases h0 : len0 = 0
    · subst h0
      exact ⟨[], ⟨some a, m, rfl, fun i x hi => by simp at hi⟩, Nat.zero_le _⟩
    have each : ∀ i, ∃ y : List UInt8, i < len0 → W.cell? (a.add (i * 1)) = some (.string (BA y)) := by
      intro i
      by_cases hi : i < len0
      · obtain ⟨cs, h1, h2⟩ := hx i (by omega)
        rw [cells9] at h1
        obtain ⟨_, hlen, hcell⟩ := World.cells?_some h1
        match cs, hlen with
        | [v0], _ =>
          have e0 := hcell 0 (by omega)
          rw [Deep.add_add] at e0
          obtain ⟨z0, hz0, _⟩ := DataW.trod_string Try.underlying9 h2
          simp at hz0
          subst hz0
          exact ⟨z0.data.toList, fun _ => by simpa [BA_of] using e0⟩
      · exact ⟨[], fun h => absurd h hi⟩
    obtain ⟨R, hR⟩ : ∃ R : Nat → List UInt8, ∀ i, i < len0 → W.cell? (a.add (i * 1)) = some (.string (BA (R i))) := ⟨fun i => Classical.choose (each i), fun i => Classical.choose_spec (each i)⟩
    obtain ⟨b, o, spot⟩ := a
    have hspot : spot = none := by simpa [Addr.add] using World.cell?_spot (hR 0 (by omega))
    subst hspot
    refine ⟨(List.range len0).map R, ⟨some ⟨b, o, none⟩, m, by simp, fun j x hj => ?_⟩, by simp; omega⟩
    rw [List.getElem?_map] at hj
    obtain ⟨y, hy, rfl⟩ := Option.map_eq_some_iff.1 hj
    obtain ⟨hj', e⟩ := List.getElem?_eq_some_iff.1 hy
    simp at hj' e
    subst e
    have := hR j hj'
    rw [add_at2, Nat.mul_one] at this
    exact ⟨b, o, rfl, cell_lt this, this⟩
/-- A slice of ints. -/
def IRow (w : World) (v : Value) (l : List Int) : Prop := ∃ ad cap, v = .slice ad l.length cap ∧ ∀ (i : Nat) (x : Int), l[i]? = some x → (∃ g o, ad = some ⟨g, o, none⟩ ∧ g < w.heap.size ∧ w.cell? ⟨g, o + i, none⟩ = some (.int .i64 x)) ∧ -9223372036854775808 ≤ x ∧ x ≤ 9223372036854775807
theorem ints_of {W : World} {v : Value} {d : DataW H} {p : List MemPlace} (hok : ∃ a len cap, v = .slice a len cap) (h : DataW.Trod enc Try.prog W 0 (fun _ => true) true 45 v d p) : ∃ l, IRow W v l ∧ l.length ≤ maxLen := by
  obtain ⟨a0, len0, cap0, rfl⟩ := hok
  obtain ⟨fuel, h⟩ := h
  rcases Deep.open_slice Try.underlying45 h with ⟨h0, _⟩ | ⟨a, len, cap, m, n, D, Pl, hcs, _, hl, hm, hmm, _, hx⟩
  · simp [Value.cells] at h0
    obtain ⟨rfl, rfl, rfl⟩ := h0
    exact ⟨[], ⟨none, 0, rfl, fun i x hi => by simp at hi⟩, Nat.zero_le _⟩
  · simp [Value.cells] at hcs
    obtain ⟨rfl, rfl, rfl⟩ := hcs
    rw [if_pos rfl] at hmm
    subst hmm
    by_cases h0 : len0 = 0
    · subst h0
      exact ⟨[], ⟨some a, m, rfl, fun i x hi => by simp at hi⟩, Nat.zero_le _⟩
    have each : ∀ i, ∃ y : Int, i < len0 → W.cell? (a.add (i * 1)) = some (.int .i64 y) ∧ (Lit.int .i64 y).wf = true := by
      intro i
      by_cases hi : i < len0
      · obtain ⟨cs, h1, h2⟩ := hx i (by omega)
        rw [cells3] at h1
        obtain ⟨_, hlen, hcell⟩ := World.cells?_some h1
        match cs, hlen with
        | [v0], _ =>
          have e0 := hcell 0 (by omega)
          rw [Deep.add_add] at e0
          obtain ⟨z0, hz0, hz1, hz2⟩ := DataW.trod_int Try.underlying3 h2
          simp at hz0
          subst hz0
          exact ⟨z0, fun _ => ⟨by simpa using e0, hz2⟩⟩
      · exact ⟨0, fun h => absurd h hi⟩
    obtain ⟨R, hR⟩ : ∃ R : Nat → Int, ∀ i, i < len0 → W.cell? (a.add (i * 1)) = some (.int .i64 (R i)) ∧ (Lit.int .i64 (R i)).wf = true := ⟨fun i => Classical.choose (each i), fun i => Classical.choose_spec (each i)⟩
    obtain ⟨b, o, spot⟩ := a
    have hspot : spot = none := by simpa [Addr.add] using World.cell?_spot (hR 0 (by omega)).1
    subst hspot
    refine ⟨(List.range len0).map R, ⟨some ⟨b, o, none⟩, m, by simp, fun j x hj => ?_⟩, by simp; omega⟩
    rw [List.getElem?_map] at hj
    obtain ⟨y, hy, rfl⟩ := Option.map_eq_some_iff.1 hj
    obtain ⟨hj', e⟩ := List.getElem?_eq_some_iff.1 hy
    simp at hj' e
    subst e
    have := hR j hj'
    rw [add_at2, Nat.mul_one] at this
    exact ⟨⟨b, o, rfl, cell_lt this.1, this.1⟩, bounds_i64 this.2⟩

end Go.Proofs.Ytpljphbaibncjaa
