/-
  A slice of variables that came in, as a list of pairs.
-/
import Derived.Test.YtlbpeknncakfeaaGreatDoorStart
import Derived.Test.YtlbpeknncakfeaaGreatDoorLists
import Derived.Deep.Slices
namespace Go.Proofs.YtlbpeknncakfeaaGreatDoor
open Go.ChangeShapes Go.WideShapes Go.ChangeAt Go.RowKit

variable {H : Type} {enc : TypeId × Value → H}

theorem max63 : maxLen = 9223372036854775807 := by decide
theorem cells39 : Tryz.prog.cellsOf 39 = 2 := by kernel_rfl
theorem add_at2 (g o j : Nat) : ((⟨g, o, none⟩ : Addr).add j) = ⟨g, o + j, none⟩ := by
  by_cases h : j = 0
  · subst h; simp [Addr.add]
  · simp [Addr.add, h]
set_option maxRecDepth 100000 in
/-- A slice of variables that came in. -/
theorem pairs_of {W : World} {v : Value} {d : DataW H} {ps : List MemPlace} (hok : ∃ a len cap, v = .slice a len cap) (hT : DataW.Trod enc Tryz.prog W 0 (fun _ => true) true 27 v d ps) : ∃ l, PRow W.heap.size W v l := by
  obtain ⟨a0, len0, cap0, rfl⟩ := hok
  obtain ⟨fuel, h⟩ := hT
  rcases Deep.open_slice Tryz.underlying27 h with ⟨h0, _⟩ | ⟨a, len, cap, m, n, D, Pl, hcs, _, hl, hm, hmm, _, hx⟩
  · simp [Value.cells] at h0
    obtain ⟨rfl, rfl, rfl⟩ := h0
    exact ⟨[], PRow.nil _ _⟩
  · simp [Value.cells] at hcs
    obtain ⟨rfl, rfl, rfl⟩ := hcs
    rw [if_pos rfl] at hmm
    subst hmm
    rw [max63] at hm
    by_cases h0 : len0 = 0
    · subst h0
      exact ⟨[], some a, _, rfl, by simp, .inl rfl⟩
    have each : ∀ i, ∃ r : List UInt8 × List UInt8, i < len0 → W.cell? (a.add (i * 2)) = some (.string (BA r.1)) ∧ W.cell? (a.add (i * 2 + 1)) = some (.string (BA r.2)) := by
      intro i
      by_cases hi : i < len0
      · obtain ⟨cs, h1, h2⟩ := hx i (by omega)
        rw [cells39] at h1
        obtain ⟨_, hlen, hcell⟩ := World.cells?_some h1
        obtain ⟨xs, k, hk, hxy, _, hxl, hf⟩ := DataW.trod_struct Tryz.underlying39 h2
        match xs, hxl, cs, hlen with
        | [y0, y1], _, [v0, v1], _ =>
          have g0 := hf 0 _ rfl
          have g1 := hf 1 _ rfl
          simp [cells9] at g0 g1
          have e0 := hcell 0 (by omega)
          have e1 := hcell 1 (by omega)
          rw [Deep.add_add] at e0 e1
          obtain ⟨z0, hz0, _⟩ := DataW.trod_string Tryz.underlying9 g0
          obtain ⟨z1, hz1, _⟩ := DataW.trod_string Tryz.underlying9 g1
          simp at hz0 hz1
          subst hz0 hz1
          exact ⟨(z0.data.toList, z1.data.toList), fun _ => ⟨by rw [BA_of]; simpa using e0, by rw [BA_of]; simpa using e1⟩⟩
      · exact ⟨([], []), fun h => absurd h hi⟩
    obtain ⟨R, hR⟩ : ∃ R : Nat → List UInt8 × List UInt8, ∀ i, i < len0 → W.cell? (a.add (i * 2)) = some (.string (BA (R i).1)) ∧ W.cell? (a.add (i * 2 + 1)) = some (.string (BA (R i).2)) := ⟨fun i => Classical.choose (each i), fun i => Classical.choose_spec (each i)⟩
    obtain ⟨b, o, spot⟩ := a
    have hspot : spot = none := by simpa [Addr.add] using World.cell?_spot (hR 0 (by omega)).1
    subst hspot
    refine ⟨(List.range len0).map R, some ⟨b, o, none⟩, m, by simp, by simp; omega, .inr ⟨b, o, rfl, ?_, fun j hj => ?_⟩⟩
    · exact cell_lt (p := (⟨b, o, none⟩ : Addr).add (0 * 2)) (hR 0 (by omega)).1
    · have hj' : j < len0 := by simpa using hj
      have := hR j hj'
      rw [add_at2, add_at2] at this
      simp only [List.getElem_map, List.getElem_range]
      exact this

end Go.Proofs.YtlbpeknncakfeaaGreatDoor
