/-
  ParseSimple: a slice of texts that is handed in.
-/
import Derived.Test.YtnamineofpeahaaGreatDoorM35
namespace Go.Proofs.YtnamineofpeahaaGreatDoor
open Go.ChangeShapes Go.WideShapes Go.ChangeAt Go.RowKit Go.Joins

theorem c9q : Tryz.prog.cellsOf 9 = 1 := by kernel_rfl
theorem celltq {W : World} {p : Addr} {v : Value} (h : W.cell? p = some v) : p.block < W.heap.size := by
 rcases Nat.lt_or_ge p.block W.heap.size with h' | h'
 ·exact h'
 ·unfold World.cell? at h
  rw [Array.getElem?_eq_none h'] at h
  cases h
theorem add_atq (b o j : Nat) : ((⟨b, o, none⟩ : Addr).add j) = ⟨b, o + j, none⟩ := by
 by_cases h : j = 0
 ·subst h; simp [Addr.add]
 ·simp [Addr.add, h]
variable {H : Type} {enc : TypeId × Value → H}
/-- A slice of texts. -/
def XRow (w : World) (v : Value) (l : List (List UInt8)) : Prop := ∃ ad cap, v = .slice ad l.length cap ∧ ∀ (i : Nat) (x : List UInt8), l[i]? = some x → ∃ g o, ad = some ⟨g, o, none⟩ ∧ g < w.heap.size ∧ w.cell? ⟨g, o + i, none⟩ = some (.string (BA x))
theorem XRow.below {w w' : World} {v : Value} {l : List (List UInt8)} (h : XRow w v l) (hb : Below w.heap.size w w') : XRow w' v l := by
 obtain ⟨ad, cap, rfl, h⟩ := h
 refine ⟨ad, cap, rfl, fun i x hi => ?_⟩
 obtain ⟨g, o, rfl, hg, c0⟩ := h i x hi
 exact ⟨g, o, rfl, Nat.lt_of_lt_of_le hg hb.size, (hb.cell (p := ⟨g, _, none⟩) hg).trans c0⟩
theorem texts_of {W : World} {v : Value} {d : DataW H} {p : List MemPlace} (hok : ∃ a len cap, v = .slice a len cap) (h : DataW.Trod enc Tryz.prog W 0 (fun _ => true) true 35 v d p) : ∃ l, XRow W v l ∧ l.length ≤ maxLen := by
 obtain ⟨a0, len0, cap0, rfl⟩ := hok
 obtain ⟨fuel, h⟩ := h
 rcases Deep.open_slice Tryz.underlying35 h with ⟨h0, _⟩ | ⟨a, len, cap, m, n, D, Pl, hcs, _, hl, hm, hmm, _, hx⟩
 ·simp [Value.cells] at h0
  obtain ⟨rfl, rfl, rfl⟩ := h0
  exact ⟨[], ⟨none, 0, rfl, fun i x hi => by simp at hi⟩, Nat.zero_le _⟩
 ·simp [Value.cells] at hcs
  obtain ⟨rfl, rfl, rfl⟩ := hcs
  rw [if_pos rfl] at hmm
  subst hmm
  by_cases h0 : len0 = 0
  ·subst h0
   exact ⟨[], ⟨some a, m, rfl, fun i x hi => by simp at hi⟩, Nat.zero_le _⟩
  have each : ∀ i, ∃ y : List UInt8, i < len0 → W.cell? (a.add (i * 1)) = some (.string (BA y)) := by
   intro i
   by_cases hi : i < len0
   ·obtain ⟨cs, h1, h2⟩ := hx i (by omega)
    rw [c9q] at h1
    obtain ⟨_, hlen, hcell⟩ := World.cells?_some h1
    match cs, hlen with
    | [v0], _ =>
      have e0 := hcell 0 (by omega)
      rw [Deep.add_add] at e0
      obtain ⟨z0, hz0, _⟩ := DataW.trod_string Tryz.underlying9 h2
      simp at hz0
      subst hz0
      exact ⟨z0.data.toList, fun _ => by simpa [BA_of] using e0⟩
   ·exact ⟨[], fun h => absurd h hi⟩
  obtain ⟨R, hR⟩ : ∃ R : Nat → List UInt8, ∀ i, i < len0 → W.cell? (a.add (i * 1)) = some (.string (BA (R i))) := ⟨fun i => Classical.choose (each i), fun i => Classical.choose_spec (each i)⟩
  obtain ⟨b, o, spot⟩ := a
  have hspot : spot = none := by simpa [Addr.add] using World.cell?_spot (hR 0 (by omega))
  subst hspot
  refine ⟨(List.range len0).map R, ⟨some ⟨b, o, none⟩, m, by simp, fun j x hj => ?_⟩, by simp; omega⟩
  rw [List.getElem?_map] at hj
  obtain ⟨y, hy, rfl⟩ := Option.map_eq_some_iff.1 hj
  obtain ⟨hj', e⟩ := List.getElem?_eq_some_iff.1 hy
  simp at hj' e
  subst e
  have := hR j hj'
  rw [add_atq, Nat.mul_one] at this
  exact ⟨b, o, rfl, celltq this, this⟩
/-- A slice of ints. -/
def IRow (w : World) (v : Value) (l : List Int) : Prop := ∃ ad cap, v = .slice ad l.length cap ∧ ∀ (i : Nat) (x : Int), l[i]? = some x → (∃ g o, ad = some ⟨g, o, none⟩ ∧ g < w.heap.size ∧ w.cell? ⟨g, o + i, none⟩ = some (.int .i64 x)) ∧ -9223372036854775808 ≤ x ∧ x ≤ 9223372036854775807

end Go.Proofs.YtnamineofpeahaaGreatDoor
