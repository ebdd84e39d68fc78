/-
  What all laws of this seat share: the program's own facts; what the arguments read as.
-/
import Derived.Test.YtegaonlpbcpobaaFrame
import Derived.Test.YtegaonlpbcpobaaAwake
import Derived.Deep.Slices
namespace Go.Proofs.Ytegaonlpbcpobaa
open Go.ChangeShapes Go.WideShapes Go.ChangeAt Go.RowKit

theorem own : ownKnob Try.prog.godebug = none := by kernel_rfl
theorem laidOut : laidOutB Try.prog = true := by kernel_rfl
theorem read_of {P : Program} {ts : List TypeId} (h : (ts.all fun t => P.readableRec t && decide (t < P.types.size)) = true) : ∀ t ∈ ts, P.readableRec t = true ∧ t < P.types.size := by
  intro t ht
  have := List.all_eq_true.1 h t ht
  simpa using this

theorem cells47 : Try.prog.cellsOf 47 = 4 := by kernel_rfl
theorem cells48 : Try.prog.cellsOf 48 = 2 := by kernel_rfl
theorem cells45 : Try.prog.cellsOf 45 = 1 := by kernel_rfl
theorem cells3 : Try.prog.cellsOf 3 = 1 := by kernel_rfl
theorem cells4 : Try.prog.cellsOf 4 = 1 := by kernel_rfl
theorem cells5 : Try.prog.cellsOf 5 = 1 := by kernel_rfl

variable {H : Type} {enc : TypeId × Value → H}

theorem max63 : maxLen = 9223372036854775807 := by decide

/-- A slice of ranges that came in. -/
theorem rows_of {W : World} {fuel : Nat} {v : Value} {x : DataW H × List MemPlace} (h : DataW.trod enc Try.prog W 0 (fun _ => true) true fuel 45 [v] = some x) : ∃ rs, RowR W.heap.size W v rs := by
  rcases Deep.open_slice Try.underlying45 h with ⟨h0, _⟩ | ⟨a, len, cap, m, n, D, Pl, hcs, _, hl, hm, hmm, _, hx⟩
  · simp at h0
    subst h0
    exact ⟨[], none, 0, rfl, Nat.le_refl _, by simp, .inl rfl⟩
  · simp at hcs
    subst hcs
    rw [if_pos rfl] at hmm
    subst hmm
    rw [max63] at hm
    by_cases h0 : len = 0
    · subst h0
      exact ⟨[], some a, m, rfl, Nat.zero_le _, by simp, .inl rfl⟩
    have each : ∀ i, ∃ r : Int × Int, i < len → W.cell? (a.add (i * 2)) = some (.int .u8 r.1) ∧ W.cell? (a.add (i * 2 + 1)) = some (.int .u8 r.2) := by
      intro i
      by_cases hi : i < len
      · obtain ⟨cs, h1, h2⟩ := hx i (by omega)
        rw [cells48] at h1
        obtain ⟨_, hlen, hcell⟩ := World.cells?_some h1
        obtain ⟨xs, k, hk, hxy, _, hxl, hf⟩ := DataW.trod_struct Try.underlying48 h2
        match xs, hxl, cs, hlen with
        | [y0, y1], _, [v0, v1], _ =>
          have g0 := hf 0 _ rfl
          have g1 := hf 1 _ rfl
          simp [cells5] at g0 g1
          have e0 := hcell 0 (by omega)
          have e1 := hcell 1 (by omega)
          rw [Deep.add_add] at e0 e1
          obtain ⟨z0, hz0, _⟩ := DataW.trod_int Try.underlying5 g0
          obtain ⟨z1, hz1, _⟩ := DataW.trod_int Try.underlying5 g1
          simp at hz0 hz1
          subst hz0 hz1
          exact ⟨(z0, z1), fun _ => ⟨by simpa using e0, by simpa using e1⟩⟩
      · exact ⟨(0, 0), fun h => absurd h hi⟩
    obtain ⟨R, hR⟩ : ∃ R : Nat → Int × Int, ∀ i, i < len → W.cell? (a.add (i * 2)) = some (.int .u8 (R i).1) ∧ W.cell? (a.add (i * 2 + 1)) = some (.int .u8 (R i).2) := ⟨fun i => Classical.choose (each i), fun i => Classical.choose_spec (each i)⟩
    obtain ⟨b, o, spot⟩ := a
    have hspot : spot = none := by simpa [Addr.add] using World.cell?_spot (hR 0 (by omega)).1
    subst hspot
    refine ⟨(List.range len).map R, some ⟨b, o, none⟩, m, by simp, by simpa using hl, by simp; omega, .inr ⟨b, o, rfl, ?_, fun j hj => ?_⟩⟩
    · exact cell_lt (p := (⟨b, o, none⟩ : Addr).add (0 * 2)) (hR 0 (by omega)).1
    · have hj' : j < len := by simpa using hj
      have := hR j hj'
      rw [add_at2, add_at2] at this
      simp only [List.getElem_map, List.getElem_range]
      exact this

/-- A slice of tokens that came in. -/
theorem toks_of {W : World} {v : Value} {d : DataW H} {p : List MemPlace} (hok : ∃ a len cap, v = .slice a len cap) (h : DataW.Trod enc Try.prog W 0 (fun _ => true) true 26 v d p) : ∃ ts, TR W v ts := by
  obtain ⟨a0, len0, cap0, rfl⟩ := hok
  obtain ⟨fuel, h⟩ := h
  rcases Deep.open_slice Try.underlying26 h with ⟨h0, _⟩ | ⟨a, len, cap, m, n, D, Pl, hcs, _, hl, hm, hmm, _, hx⟩
  · simp [Value.cells] at h0
    obtain ⟨rfl, rfl, rfl⟩ := h0
    exact ⟨[], none, 0, rfl, Nat.le_refl _, by simp, .inl rfl⟩
  · simp [Value.cells] at hcs
    obtain ⟨rfl, rfl, rfl⟩ := hcs
    rw [if_pos rfl] at hmm
    subst hmm
    rw [max63] at hm
    by_cases h0 : len0 = 0
    · subst h0
      exact ⟨[], some a, m, rfl, Nat.zero_le _, by simp, .inl rfl⟩
    have each : ∀ i, ∃ y : Tok × Value, i < len0 → W.cell? (a.add (i * 4)) = some (.int .i64 y.1.kind) ∧ W.cell? (a.add (i * 4 + 1)) = some (.int .u8 y.1.c) ∧ W.cell? (a.add (i * 4 + 2)) = some (.bool y.1.nt) ∧
        W.cell? (a.add (i * 4 + 3)) = some y.2 ∧ RowR W.heap.size W y.2 y.1.rs := by
      intro i
      by_cases hi : i < len0
      · obtain ⟨cs, h1, h2⟩ := hx i (by omega)
        rw [cells47] at h1
        obtain ⟨_, hlen, hcell⟩ := World.cells?_some h1
        obtain ⟨xs, k, hk, hxy, _, hxl, hf⟩ := DataW.trod_struct Try.underlying47 h2
        match xs, hxl, cs, hlen with
        | [y0, y1, y2, y3], _, [v0, v1, v2, v3], _ =>
          have g0 := hf 0 _ rfl
          have g1 := hf 1 _ rfl
          have g2 := hf 2 _ rfl
          have g3 := hf 3 _ rfl
          simp [cells3, cells4, cells5, cells45] at g0 g1 g2 g3
          have e0 := hcell 0 (by omega)
          have e1 := hcell 1 (by omega)
          have e2 := hcell 2 (by omega)
          have e3 := hcell 3 (by omega)
          rw [Deep.add_add] at e0 e1 e2 e3
          obtain ⟨z0, hz0, _⟩ := DataW.trod_int Try.underlying3 g0
          obtain ⟨z1, hz1, _⟩ := DataW.trod_int Try.underlying5 g1
          obtain ⟨z2, hz2, _⟩ := DataW.trod_bool Try.underlying4 g2
          obtain ⟨rs, hrs⟩ := rows_of g3
          simp at hz0 hz1 hz2
          subst hz0 hz1 hz2
          exact ⟨(⟨z0, z1, z2, rs⟩, v3), fun _ => ⟨by simpa using e0, by simpa using e1, by simpa using e2, by simpa using e3, hrs⟩⟩
      · exact ⟨(⟨0, 0, false, []⟩, .slice none 0 0), fun h => absurd h hi⟩
    obtain ⟨R, hR⟩ : ∃ R : Nat → Tok × Value, ∀ i, i < len0 → W.cell? (a.add (i * 4)) = some (.int .i64 (R i).1.kind) ∧ W.cell? (a.add (i * 4 + 1)) = some (.int .u8 (R i).1.c) ∧ W.cell? (a.add (i * 4 + 2)) = some (.bool (R i).1.nt) ∧
        W.cell? (a.add (i * 4 + 3)) = some (R i).2 ∧ RowR W.heap.size W (R i).2 (R i).1.rs := ⟨fun i => Classical.choose (each i), fun i => Classical.choose_spec (each i)⟩
    obtain ⟨b, o, spot⟩ := a
    have hspot : spot = none := by simpa [Addr.add] using World.cell?_spot (hR 0 (by omega)).1
    subst hspot
    refine ⟨(List.range len0).map fun i => (R i).1, some ⟨b, o, none⟩, m, by simp, by simpa using hl, by simp; omega, .inr ⟨b, o, rfl, ?_, fun j hj => ⟨(R j).2, ?_, ?_⟩⟩⟩
    · exact cell_lt (p := (⟨b, o, none⟩ : Addr).add (0 * 4)) (hR 0 (by omega)).1
    · have hj' : j < len0 := by simpa using hj
      have := hR j hj'
      rw [add_at2, add_at2, add_at2, add_at2] at this
      simp only [List.getElem_map, List.getElem_range]
      exact ⟨this.1, this.2.1, this.2.2.1, this.2.2.2.1⟩
    · have hj' : j < len0 := by simpa using hj
      simp only [List.getElem_map, List.getElem_range]
      exact (hR j hj').2.2.2.2

/-- A slice of bools that came in. -/
theorem bools_of {W : World} {v : Value} {d : DataW H} {p : List MemPlace} (hok : ∃ a len cap, v = .slice a len cap) (h : DataW.Trod enc Try.prog W 0 (fun _ => true) true 22 v d p) : ∃ q, QRow W.heap.size W v q := by
  obtain ⟨a0, len0, cap0, rfl⟩ := hok
  obtain ⟨fuel, h⟩ := h
  rcases Deep.open_slice Try.underlying22 h with ⟨h0, _⟩ | ⟨a, len, cap, m, n, D, Pl, hcs, _, hl, hm, hmm, _, hx⟩
  · simp [Value.cells] at h0
    obtain ⟨rfl, rfl, rfl⟩ := h0
    exact ⟨[], none, 0, rfl, by simp, .inl rfl⟩
  · simp [Value.cells] at hcs
    obtain ⟨rfl, rfl, rfl⟩ := hcs
    rw [if_pos rfl] at hmm
    subst hmm
    rw [max63] at hm
    by_cases h0 : len0 = 0
    · subst h0
      exact ⟨[], some a, m, rfl, by simp, .inl rfl⟩
    have each : ∀ i, ∃ y : Bool, i < len0 → W.cell? (a.add i) = some (.bool y) := by
      intro i
      by_cases hi : i < len0
      · obtain ⟨cs, h1, h2⟩ := hx i (by omega)
        rw [cells4] at h1
        obtain ⟨_, hlen, hcell⟩ := World.cells?_some h1
        match cs, hlen with
        | [v0], _ =>
          have e0 := hcell 0 (by omega)
          rw [Deep.add_add] at e0
          obtain ⟨z0, hz0, _⟩ := DataW.trod_bool Try.underlying4 h2
          simp at hz0
          subst hz0
          exact ⟨z0, fun _ => by simpa using e0⟩
      · exact ⟨false, fun h => absurd h hi⟩
    obtain ⟨R, hR⟩ : ∃ R : Nat → Bool, ∀ i, i < len0 → W.cell? (a.add i) = some (.bool (R i)) := ⟨fun i => Classical.choose (each i), fun i => Classical.choose_spec (each i)⟩
    obtain ⟨b, o, spot⟩ := a
    have hspot : spot = none := by simpa [Addr.add] using World.cell?_spot (hR 0 (by omega))
    subst hspot
    refine ⟨(List.range len0).map R, some ⟨b, o, none⟩, m, by simp, by simp; omega, .inr ⟨b, o, rfl, ?_, fun j hj => ?_⟩⟩
    · exact cell_lt (p := (⟨b, o, none⟩ : Addr).add 0) (hR 0 (by omega))
    · have hj' : j < len0 := by simpa using hj
      have := hR j hj'
      rw [add_at2] at this
      simpa using this

end Go.Proofs.Ytegaonlpbcpobaa
