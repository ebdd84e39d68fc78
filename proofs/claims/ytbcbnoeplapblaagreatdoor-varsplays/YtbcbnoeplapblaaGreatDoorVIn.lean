/-
  Calls that came in; which are not too much.
-/
import Derived.Test.YtbcbnoeplapblaaGreatDoorVDo
import Derived.Deep.Slices
namespace Go.Proofs.YtbcbnoeplapblaaGreatDoor
open Go.RowKit Go.ChangeShapes Go.WideShapes

theorem c9 : Tryz.prog.cellsOf 9 = 1 := by kernel_rfl
theorem c3 : Tryz.prog.cellsOf 3 = 1 := by kernel_rfl
theorem c4 : Tryz.prog.cellsOf 4 = 1 := by kernel_rfl
theorem c29 : Tryz.prog.cellsOf 22 = 1 := by kernel_rfl
theorem cOp : Tryz.prog.cellsOf 36 = 5 := by kernel_rfl
theorem und_ops : Tryz.prog.underlying 23 = some (.slice 36) := by kernel_rfl
theorem add_at2 (b o j : Nat) : ((⟨b, o, none⟩ : Addr).add j) = ⟨b, o + j, none⟩ := by
  by_cases h : j = 0
  · subst h; simp [Addr.add]
  · simp [Addr.add, h]
theorem cell_lt {W : World} {p : Addr} {v : Value} (h : W.cell? p = some v) : p.block < W.heap.size := by
  rcases Nat.lt_or_ge p.block W.heap.size with h' | h'
  · exact h'
  · unfold World.cell? at h
    rw [Array.getElem?_eq_none h'] at h
    cases h
theorem get_range {α : Type} {R : Nat → α} {len i : Nat} {x : α} (h : ((List.range len).map R)[i]? = some x) : i < len ∧ x = R i := by
  rw [List.getElem?_map] at h
  obtain ⟨j, hj, hp⟩ := Option.map_eq_some_iff.1 h
  obtain ⟨hj1, hj2⟩ := List.getElem?_eq_some_iff.1 hj
  have hji : j = i := by simpa using hj2.symm
  exact ⟨by simpa using hj1, by rw [← hp, hji]⟩
set_option maxRecDepth 20000 in
set_option maxHeartbeats 1000000 in
theorem texts_all {H : Type} {enc : TypeId × Value → H} {W : World} {fuel : Nat} {v : Value} {x : DataW H × List MemPlace} (h : DataW.trod enc Tryz.prog W 0 (fun _ => true) true fuel 22 [v] = some x) : ∃ l, AIn W v l := by
  rcases Deep.open_slice und_texts h with ⟨h0, _⟩ | ⟨a, len, cap, m, n, D, Pl, hcs, _, hl, hm, hmm, hxx, hx⟩
  · simp at h0
    subst h0
    exact ⟨[], none, 0, rfl, Nat.zero_le _, .inl rfl⟩
  · simp at hcs
    subst hcs
    rw [if_pos rfl] at hmm
    subst hmm
    by_cases h0 : len = 0
    · subst h0
      exact ⟨[], _, _, rfl, Nat.zero_le _, .inl rfl⟩
    have each : ∀ i, ∃ y : List UInt8, i < len → W.cell? (a.add i) = some (.string (BA y)) := by
      intro i
      by_cases hi : i < len
      · obtain ⟨cs, h1, h2⟩ := hx i (by omega)
        rw [c9] at h1
        obtain ⟨_, hlen, hcell⟩ := World.cells?_some h1
        match cs, hlen with
        | [v0], _ =>
          have e0 := hcell 0 (by omega)
          rw [Deep.add_add] at e0
          obtain ⟨z1, hz1, _⟩ := DataW.trod_string Tryz.underlying9 h2
          simp at e0 hz1
          subst hz1
          exact ⟨z1.data.toList, fun _ => e0⟩
      · exact ⟨[], fun h => absurd h hi⟩
    obtain ⟨R, hR⟩ : ∃ R : Nat → List UInt8, ∀ i, i < len → W.cell? (a.add i) = some (.string (BA (R i))) := ⟨fun i => Classical.choose (each i), fun i => Classical.choose_spec (each i)⟩
    obtain ⟨b, o, spot⟩ := a
    have hspot : spot = none := by simpa [Addr.add] using World.cell?_spot (hR 0 (by omega))
    subst hspot
    refine ⟨(List.range len).map R, some ⟨b, o, none⟩, m, by simp, by simp; omega, .inr ⟨b, o, rfl, ?_, fun i p hi => ?_⟩⟩
    · exact cell_lt (p := (⟨b, o, none⟩ : Addr).add 0) (hR 0 (by omega))
    · obtain ⟨hil, rfl⟩ := get_range hi
      have := hR i hil
      rwa [add_at2] at this
theorem texts_of {H : Type} {enc : TypeId × Value → H} {W : World} {v : Value} {d : DataW H} {p : List MemPlace} (hok : ∃ a len cap, v = .slice a len cap) (h : DataW.Trod enc Tryz.prog W 0 (fun _ => true) true 22 v d p) : ∃ l, AIn W v l := by
  obtain ⟨a0, len0, cap0, rfl⟩ := hok
  obtain ⟨fuel, h⟩ := h
  exact texts_all (x := (d, p)) (by simpa [Value.cells] using h)
/-- The slice v holds these calls. -/
def OpsAt (w : World) (v : Value) (L : List OpP) : Prop := ∃ ad cap, v = .slice ad L.length cap ∧ L.length ≤ maxLen ∧ (L = [] ∨ ∃ g o, ad = some ⟨g, o, none⟩ ∧ g < w.heap.size ∧ ∀ i p, L[i]? = some p → w.cell? ⟨g, o + i * 5, none⟩ = some (.int .i64 p.kind) ∧ w.cell? ⟨g, o + i * 5 + 1, none⟩ = some (.string (BA p.name)) ∧ w.cell? ⟨g, o + i * 5 + 2, none⟩ = some (.string (BA p.value)) ∧ w.cell? ⟨g, o + i * 5 + 3, none⟩ = some (.int .i64 p.n) ∧ ∃ u, w.cell? ⟨g, o + i * 5 + 4, none⟩ = some u ∧ AIn w u p.args)
theorem OpsAt.below {w w' : World} {v : Value} {L : List OpP} (h : OpsAt w v L) (hb : Below w.heap.size w w') : OpsAt w' v L := by
  obtain ⟨ad, cap, h1, h3, h4 | ⟨g, o, h4, h5, h6⟩⟩ := h
  · exact ⟨ad, cap, h1, h3, .inl h4⟩
  · refine ⟨ad, cap, h1, h3, .inr ⟨g, o, h4, Nat.lt_of_lt_of_le h5 hb.size, fun i p hi => ?_⟩⟩
    obtain ⟨a0, a1, a2, a3, u, a4, a5⟩ := h6 i p hi
    exact ⟨(hb.cell (p := ⟨g, _, none⟩) h5).trans a0, (hb.cell (p := ⟨g, _, none⟩) h5).trans a1, (hb.cell (p := ⟨g, _, none⟩) h5).trans a2, (hb.cell (p := ⟨g, _, none⟩) h5).trans a3, u, (hb.cell (p := ⟨g, _, none⟩) h5).trans a4, a5.below hb⟩
set_option maxRecDepth 20000 in
set_option maxHeartbeats 1000000 in
theorem ops_of {H : Type} {enc : TypeId × Value → H} {W : World} {v : Value} {d : DataW H} {p : List MemPlace} (hok : ∃ a len cap, v = .slice a len cap) (h : DataW.Trod enc Tryz.prog W 0 (fun _ => true) true 23 v d p) : ∃ L, OpsAt W v L := by
  obtain ⟨a0, len0, cap0, rfl⟩ := hok
  obtain ⟨fuel, h⟩ := h
  have h : DataW.trod enc Tryz.prog W 0 (fun _ => true) true fuel 23 [.slice a0 len0 cap0] = some (d, p) := by simpa [Value.cells] using h
  rcases Deep.open_slice und_ops h with ⟨h0, _⟩ | ⟨a, len, cap, m, n, D, Pl, hcs, _, hl, hm, hmm, hxx, hx⟩
  · simp at h0
    obtain ⟨rfl, rfl, rfl⟩ := h0
    exact ⟨[], none, 0, rfl, Nat.zero_le _, .inl rfl⟩
  · simp at hcs
    obtain ⟨rfl, rfl, rfl⟩ := hcs
    rw [if_pos rfl] at hmm
    subst hmm
    by_cases h0 : len0 = 0
    · subst h0
      exact ⟨[], _, _, rfl, Nat.zero_le _, .inl rfl⟩
    have each : ∀ i, ∃ y : OpP × Value, i < len0 → W.cell? (a.add (i * 5)) = some (.int .i64 y.1.kind) ∧ W.cell? (a.add (i * 5 + 1)) = some (.string (BA y.1.name)) ∧ W.cell? (a.add (i * 5 + 2)) = some (.string (BA y.1.value)) ∧ W.cell? (a.add (i * 5 + 3)) = some (.int .i64 y.1.n) ∧ W.cell? (a.add (i * 5 + 4)) = some y.2 ∧ AIn W y.2 y.1.args := by
      intro i
      by_cases hi : i < len0
      · obtain ⟨cs, h1, h2⟩ := hx i (by omega)
        rw [cOp] at h1
        obtain ⟨_, hlen, hcell⟩ := World.cells?_some h1
        obtain ⟨xs, k, hk, hxy, _, hxl, hf⟩ := DataW.trod_struct Tryz.underlying36 h2
        match xs, hxl, cs, hlen with
        | [y0, y1, y2, y3, y4], _, [v0, v1, v2, v3, v4], _ =>
          have g0 := hf 0 _ rfl
          have g1 := hf 1 _ rfl
          have g2 := hf 2 _ rfl
          have g3 := hf 3 _ rfl
          have g4 := hf 4 _ rfl
          simp [c3, c9, c29] at g0 g1 g2 g3 g4
          have e0 := hcell 0 (by omega)
          have e1 := hcell 1 (by omega)
          have e2 := hcell 2 (by omega)
          have e3 := hcell 3 (by omega)
          have e4 := hcell 4 (by omega)
          rw [Deep.add_add] at e0 e1 e2 e3 e4
          obtain ⟨z0, hz0, _⟩ := DataW.trod_int Tryz.underlying3 g0
          obtain ⟨z1, hz1, _⟩ := DataW.trod_string Tryz.underlying9 g1
          obtain ⟨z2, hz2, _⟩ := DataW.trod_string Tryz.underlying9 g2
          obtain ⟨z3, hz3, _⟩ := DataW.trod_int Tryz.underlying3 g3
          obtain ⟨l, hws⟩ := texts_all g4
          simp at e0 e1 e2 e3 e4
          simp at hz0 hz1 hz2 hz3
          subst hz0 hz1 hz2 hz3
          exact ⟨(⟨z0, z1.data.toList, z2.data.toList, z3, l⟩, v4), fun _ => ⟨e0, e1, e2, e3, e4, hws⟩⟩
      · exact ⟨(⟨0, [], [], 0, []⟩, .slice none 0 0), fun h => absurd h hi⟩
    obtain ⟨R, hR⟩ : ∃ R : Nat → OpP × Value, ∀ i, i < len0 → W.cell? (a.add (i * 5)) = some (.int .i64 (R i).1.kind) ∧ W.cell? (a.add (i * 5 + 1)) = some (.string (BA (R i).1.name)) ∧ W.cell? (a.add (i * 5 + 2)) = some (.string (BA (R i).1.value)) ∧ W.cell? (a.add (i * 5 + 3)) = some (.int .i64 (R i).1.n) ∧ W.cell? (a.add (i * 5 + 4)) = some (R i).2 ∧ AIn W (R i).2 (R i).1.args := ⟨fun i => Classical.choose (each i), fun i => Classical.choose_spec (each i)⟩
    obtain ⟨b, o, spot⟩ := a
    have hspot : spot = none := by simpa [Addr.add] using World.cell?_spot (hR 0 (by omega)).1
    subst hspot
    refine ⟨(List.range len0).map fun i => (R i).1, some ⟨b, o, none⟩, m, by simp, by simp; omega, .inr ⟨b, o, rfl, ?_, fun i p hi => ?_⟩⟩
    · exact cell_lt (p := (⟨b, o, none⟩ : Addr).add (0 * 5)) (hR 0 (by omega)).1
    · obtain ⟨hil, rfl⟩ := get_range hi
      have := hR i hil
      simp only [add_at2] at this
      exact ⟨this.1, this.2.1, this.2.2.1, this.2.2.2.1, _, this.2.2.2.2.1, this.2.2.2.2.2⟩

end Go.Proofs.YtbcbnoeplapblaaGreatDoor
