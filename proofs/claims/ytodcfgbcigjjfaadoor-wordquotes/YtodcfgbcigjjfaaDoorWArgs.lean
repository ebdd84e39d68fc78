/-
  Words that came in.
-/
import Derived.Test.YtodcfgbcigjjfaaDoorWStart
import Derived.Test.YtodcfgbcigjjfaaDoorWSize
import Derived.Test.YtodcfgbcigjjfaaDoorRWSame
import Derived.Deep.Slices
namespace Go.Proofs.YtodcfgbcigjjfaaDoor
open Go.ChangeShapes Go.WideShapes Go.ChangeAt Go.RowKit

theorem cP : Tryd.prog.cellsOf 35 = 6 := by kernel_rfl
theorem cW : Tryd.prog.cellsOf 23 = 1 := by kernel_rfl
theorem max63 : maxLen = 9223372036854775807 := by decide
theorem add_at2 (b o j : Nat) : ((⟨b, o, none⟩ : Addr).add j) = ⟨b, o + j, none⟩ := by
  by_cases h : j = 0
  · subst h; simp [Addr.add]
  · simp [Addr.add, h]
theorem cell_lt {W : World} {p : Addr} {v : Value} (h : W.cell? p = some v) : p.block < W.heap.size := by
  rcases Nat.lt_or_ge p.block W.heap.size with h' | h'
  · exact h'
  · unfold World.cell? at h
    rw [Array.getElem?_eq_none h'] at h
    cases h
set_option maxRecDepth 20000 in
set_option maxHeartbeats 1000000 in
theorem words_all {H : Type} {enc : TypeId × Value → H} {W : World} : ∀ (N fuel : Nat) (v : Value) (x : DataW H × List MemPlace), SizeOf.sizeOf x.1 ≤ N → DataW.trod enc Tryd.prog W 0 (fun _ => true) true fuel 23 [v] = some x → ∃ l, WAt W (fun k => k < W.heap.size) v l
  | 0, _, _, x, hN, _ => absurd hN (by obtain ⟨d, _⟩ := x; cases d <;> simp)
  | N + 1, fuel, v, x, hN, h => by
    rcases Deep.open_slice und_word h with ⟨h0, _⟩ | ⟨a, len, cap, m, n, D, Pl, hcs, _, hl, hm, hmm, hxx, hx⟩
    · simp at h0
      subst h0
      exact ⟨[], wat_nil _ _ _ _⟩
    · simp at hcs
      subst hcs
      rw [if_pos rfl] at hmm
      subst hmm
      rw [max63] at hm
      by_cases h0 : len = 0
      · subst h0
        exact ⟨[], wat_nil _ _ _ _⟩
      have each : ∀ i, ∃ y : Prt × Value, i < len → W.cell? (a.add (i * 6)) = some (.int .i64 y.1.kind) ∧ W.cell? (a.add (i * 6 + 1)) = some (.string (BA y.1.text)) ∧ W.cell? (a.add (i * 6 + 2)) = some (.bool y.1.quote) ∧
          W.cell? (a.add (i * 6 + 3)) = some (.int .i64 y.1.op) ∧ W.cell? (a.add (i * 6 + 4)) = some (.bool y.1.colon) ∧ W.cell? (a.add (i * 6 + 5)) = some y.2 ∧ WAt W (fun k => k < W.heap.size) y.2 y.1.sub := by
        intro i
        by_cases hi : i < len
        · obtain ⟨cs, h1, h2⟩ := hx i (by omega)
          rw [cP] at h1
          obtain ⟨_, hlen, hcell⟩ := World.cells?_some h1
          obtain ⟨xs, k, hk, hxy, _, hxl, hf⟩ := DataW.trod_struct Tryd.underlying35 h2
          match xs, hxl, cs, hlen with
          | [y0, y1, y2, y3, y4, y5], _, [v0, v1, v2, v3, v4, v5], _ =>
            have g0 := hf 0 _ rfl
            have g1 := hf 1 _ rfl
            have g2 := hf 2 _ rfl
            have g3 := hf 3 _ rfl
            have g4 := hf 4 _ rfl
            have g5 := hf 5 _ rfl
            simp [c3, c4, c9, cW] at g0 g1 g2 g3 g4 g5
            have e0 := hcell 0 (by omega)
            have e1 := hcell 1 (by omega)
            have e2 := hcell 2 (by omega)
            have e3 := hcell 3 (by omega)
            have e4 := hcell 4 (by omega)
            have e5 := hcell 5 (by omega)
            rw [Deep.add_add] at e0 e1 e2 e3 e4 e5
            obtain ⟨z0, hz0, _⟩ := DataW.trod_int Tryd.underlying3 g0
            obtain ⟨z1, hz1, _⟩ := DataW.trod_string Tryd.underlying9 g1
            obtain ⟨z2, hz2, _⟩ := DataW.trod_bool Tryd.underlying4 g2
            obtain ⟨z3, hz3, _⟩ := DataW.trod_int Tryd.underlying3 g3
            obtain ⟨z4, hz4, _⟩ := DataW.trod_bool Tryd.underlying4 g4
            have hlt : SizeOf.sizeOf y5.1 ≤ N := by
              have hDi : SizeOf.sizeOf (D i) < SizeOf.sizeOf ((List.range len).map D) := List.sizeOf_lt_of_mem (List.mem_map.2 ⟨i, List.mem_range.2 hi, rfl⟩)
              have hx1 : x.1 = .slice ((List.range len).map D) ((List.range (m - len)).map fun j => D (len + j)) := by rw [hxx]
              rw [hx1, DataW.slice.sizeOf_spec] at hN
              have hD : D i = .agg [y0.1, y1.1, y2.1, y3.1, y4.1, y5.1] := by
                have := congrArg Prod.fst hxy
                simpa using this
              rw [hD, DataW.agg.sizeOf_spec] at hDi
              simp only [List.cons.sizeOf_spec] at hDi
              omega
            obtain ⟨l, hws⟩ := words_all N k v5 y5 hlt g5
            simp at e0 e1 e2 e3 e4 e5
            simp at hz0 hz1 hz2 hz3 hz4
            subst hz0 hz1 hz2 hz3 hz4
            exact ⟨(.mk z0 z1.data.toList z2 z3 z4 l, v5), fun _ => ⟨e0, e1, e2, e3, e4, e5, hws⟩⟩
        · exact ⟨(.mk 0 [] false 0 false [], .slice none 0 0), fun h => absurd h hi⟩
      obtain ⟨R, hR⟩ : ∃ R : Nat → Prt × Value, ∀ i, i < len → W.cell? (a.add (i * 6)) = some (.int .i64 (R i).1.kind) ∧ W.cell? (a.add (i * 6 + 1)) = some (.string (BA (R i).1.text)) ∧ W.cell? (a.add (i * 6 + 2)) = some (.bool (R i).1.quote) ∧
          W.cell? (a.add (i * 6 + 3)) = some (.int .i64 (R i).1.op) ∧ W.cell? (a.add (i * 6 + 4)) = some (.bool (R i).1.colon) ∧ W.cell? (a.add (i * 6 + 5)) = some (R i).2 ∧ WAt W (fun k => k < W.heap.size) (R i).2 (R i).1.sub := ⟨fun i => Classical.choose (each i), fun i => Classical.choose_spec (each i)⟩
      obtain ⟨b, o, spot⟩ := a
      have hspot : spot = none := by simpa [Addr.add] using World.cell?_spot (hR 0 (by omega)).1
      subst hspot
      refine ⟨(List.range len).map fun i => (R i).1, some ⟨b, o, none⟩, m, by simp, by simp; omega, .inr ⟨b, o, rfl, ?_, PsAt.of (fun i p hi => ?_)⟩⟩
      · exact cell_lt (p := (⟨b, o, none⟩ : Addr).add (0 * 6)) (hR 0 (by omega)).1
      · rw [List.getElem?_map] at hi
        obtain ⟨j, hj, hp⟩ := Option.map_eq_some_iff.1 hi
        obtain ⟨hj1, hj2⟩ := List.getElem?_eq_some_iff.1 hj
        have hjl : i < len := by simpa using hj1
        have hji : j = i := by simpa using hj2.symm
        subst hji
        have := hR j hjl
        simp only [add_at2] at this
        rw [← hp]
        generalize R j = rj at this ⊢
        obtain ⟨⟨k, t, q, op, c, s⟩, u⟩ := rj
        exact (PAt_mk ..).2 ⟨this.1, this.2.1, this.2.2.1, this.2.2.2.1, this.2.2.2.2.1, u, this.2.2.2.2.2.1, this.2.2.2.2.2.2⟩
theorem words_of {H : Type} {enc : TypeId × Value → H} {W : World} {v : Value} {d : DataW H} {p : List MemPlace} (hok : ∃ a len cap, v = .slice a len cap) (h : DataW.Trod enc Tryd.prog W 0 (fun _ => true) true 23 v d p) : ∃ l, WAt W (fun k => k < W.heap.size) v l := by
  obtain ⟨a0, len0, cap0, rfl⟩ := hok
  obtain ⟨fuel, h⟩ := h
  exact words_all _ fuel _ (d, p) (Nat.le_refl _) (by simpa [Value.cells] using h)

end Go.Proofs.YtodcfgbcigjjfaaDoor
