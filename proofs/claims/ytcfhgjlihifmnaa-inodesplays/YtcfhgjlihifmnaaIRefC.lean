/-
  The document's table: Copy.
-/
import Derived.Test.YtcfhgjlihifmnaaIRef3
import Derived.Deep.AppendLies
namespace Go.Proofs.Ytcfhgjlihifmnaa
open Go.RowKit Go.Maps

theorem run_append_zero {P : Program} {w : World} (base : Nat) (t ty e : TypeId) (i : TypeInfo) (size : Nat) (ht : P.underlying t = some (.slice e)) (hi : P.info? e = some i)
    (v : Value) (n : Nat) (xs : List Value) (hown : w.ownsRow base e size v n xs) (a : Option Addr) (c : Nat) : (Builtin.append_ #[t, t] ty #[v, .slice a 0 c]).run P w = .ok v w := by
  rcases hown.2 with ⟨rfl, rfl⟩ | ⟨g, cap, cur, rfl, _, _, hnc, _⟩
  · cases a <;> simp [Builtin.append_, run_underlying ht, sizeOf, typeInfo, hi, Builtin.lenOf, Builtin.firstCells, loadCells, loadCellsFrom]
  · cases a <;> simp [Builtin.append_, run_underlying ht, sizeOf, typeInfo, hi, Builtin.lenOf, Builtin.firstCells, hnc, storeCells, loadCells, loadCellsFrom]
/-- A node's cells as a list. -/
def rcs (h c : Nat) (o : Option Nd) : List Value := [rcell h c o 0, rcell h c o 1, rcell h c o 2, rcell h c o 3, rcell h c o 4]
theorem rcs_get (h c : Nat) (o : Option Nd) {j : Nat} (hj : j < 5) : (rcs h c o)[j]? = some (rcell h c o j) := by
  match j, hj with
  | 0, _ => rfl
  | 1, _ => rfl
  | 2, _ => rfl
  | 3, _ => rfl
  | 4, _ => rfl
theorem rcs_one (h c : Nat) (o : Option Nd) : ∀ u ∈ rcs h c o, u.oneCell' = true := by
  intro u hu
  cases o with
  | none =>
    simp [rcs, rcell] at hu
    rcases hu with rfl | rfl | rfl <;> rfl
  | some x =>
    simp [rcs, rcell] at hu
    rcases hu with rfl | rfl | rfl | rfl | rfl <;> rfl
/-- How far Copy is: the first i nodes, the node 0 among them, are copied. -/
structure CQ (w wr : World) (T : TB) (i : Nat) (v : Value) (h' c' : Nat → Nat) : Prop where
  bel : Below w.heap.size w wr
  own : ∃ xs, wr.ownsRow w.heap.size 44 5 v i xs ∧ ∀ m o, m < i → ((none : Option Nd) :: T)[m]? = some o → ∀ j, j < 5 → xs[m * 5 + j]? = some (rcell (h' m) (c' m) o j)
  has : ∀ (m : Nat) (x : Nd), m < i → ((none : Option Nd) :: T)[m]? = some (some x) → HasRow wr (h' m) x.has ∧ w.heap.size ≤ h' m
  apart : ∀ (m k : Nat) (x y : Nd), m < i → k < i → ((none : Option Nd) :: T)[m]? = some (some x) → ((none : Option Nd) :: T)[k]? = some (some y) → m ≠ k → h' m ≠ h' k
/-- The Has row is copied: what append gives. -/
theorem has_copy {w : World} {h c : Nat} {f : Nat → Bool} (H : HasRow w h f) : ∃ g cap W, (∀ ty, (Builtin.append_ #[42, 42] ty #[.slice none 0 0, .slice (some ⟨h, 0, none⟩) 64 c]).run Try.prog w = .ok (.slice (some ⟨g, 0, none⟩) 64 cap) W) ∧ HasRow W g f ∧ Below w.heap.size w W ∧ g = w.heap.size := by
  obtain ⟨ds, d1, d2, d3⟩ := H
  obtain ⟨i, hi, hz, hs, hb⟩ := info2 (t := 4) (z := some (.bool false)) (a := 1) (c := 1) (by kernel_rfl)
  have hlen : ((List.range 64).map (fun k => Value.bool (f k))).length = 64 * 1 := by simp
  have run : ∀ ty, _ := fun ty => run_append_lies (P := Try.prog) w 42 ty w.heap.size 4 i (.bool false) 1 1 (by kernel_rfl) hi hz hs hb (by kernel_rfl) (by decide) (.slice none 0 0) 0 [] (World.ownsRow_nil _ _ _ _)
    ⟨h, 0, none⟩ 64 c ((List.range 64).map (fun k => Value.bool (f k))) hlen (fun j u hj => by
      rw [add_o, Nat.zero_add]
      rw [List.getElem?_map] at hj
      obtain ⟨k, hk, rfl⟩ := Option.map_eq_some_iff.1 hj
      obtain ⟨hjl, e⟩ := List.getElem?_eq_some_iff.1 hk
      simp at hjl e
      subst e
      exact d1.cell j (d3 j hjl)) (fun u hu => by
      obtain ⟨k, _, rfl⟩ := List.mem_map.1 hu
      rfl) (by decide) (by decide) (by decide) (Nat.le_refl _) _ rfl
  obtain ⟨g, cap, W, hr, o2, o3, o4, o5⟩ := run 0
  refine ⟨g, cap, W, fun ty => hr, ?_, below_of_grown o3, ?_⟩
  · rw [Nat.zero_add, List.nil_append] at o2
    obtain ⟨_, ⟨h0, _⟩ | ⟨g2, cap2, cur, he, hbg, hg, hnc, hcm, hcs, htake⟩⟩ := o2
    · cases h0
    · cases he
      refine ⟨cur, hg, by omega, fun k hk => ?_⟩
      have h7 : (cur.toList.take (64 * 1))[k]? = ((List.range 64).map (fun k => Value.bool (f k)))[k]? := by rw [htake]
      rw [List.getElem?_take, if_pos (by omega), List.getElem?_map, List.getElem?_range hk] at h7
      simpa using h7
  · rcases o4 with h4 | h4
    · cases h4
    · exact h4
/- A node is appended. -/
set_option maxRecDepth 20000 in
theorem CQ.next {w wr W3 : World} {T : TB} {i : Nat} {v : Value} {h' c' : Nat → Nat} (H : CQ w wr T i v h' c') {o : Option Nd} (ho : ((none : Option Nd) :: T)[i]? = some o) (hi : i ≤ 1025) {g cap : Nat} (hg3 : GrownS wr W3 (fun _ => False)) (hhas : ∀ x, o = some x → HasRow W3 g x.has ∧ wr.heap.size ≤ g) {W4 : World} (hW4 : W4 = W3.alloc (.cells (rcs g cap o).toArray 44)) :
    ∃ v' W5, (∀ ty, (Builtin.append_ #[67, 67] ty #[v, .slice (some ⟨W3.heap.size, 0, none⟩) 1 1]).run Try.prog W4 = .ok v' W5) ∧ (∃ ad n c, v' = .slice ad n c) ∧ CQ w W5 T (i + 1) v' (updN h' i g) (updN c' i cap) := by
  obtain ⟨xs, own, hxs⟩ := H.own
  have own3 := own_grownS own hg3 (fun _ _ e => e)
  have hb4 : Below W3.heap.size W3 W4 := by rw [hW4]; exact (Below.refl _ _).alloc (Nat.le_refl _) _
  have own4 := own_grownS (S := fun _ => False) own3 (grownS_of_below hb4) (fun _ _ e => e)
  have k4 : Blk W4 W3.heap.size 44 (rcs g cap o).toArray := by rw [hW4]; exact Blk.new _ _ _
  obtain ⟨inf, hinf, hz, hs, hb⟩ := info2 (t := 44) (z := some (.agg #[.int .i64 0, .int .i64 0, .int .i64 0, .string ⟨#[]⟩, .slice none 0 0])) (a := 5) (c := 64) (by kernel_rfl)
  have hbase : w.heap.size ≤ W4.heap.size := Nat.le_trans H.bel.size (Nat.le_trans hg3.size hb4.size)
  obtain ⟨g5, cap5, W5, hr, o2, o3, o4, o5⟩ := run_append_lies (P := Try.prog) W4 67 0 w.heap.size 44 inf _ 5 64 (by kernel_rfl) hinf hz hs hb (by kernel_rfl) (by decide) v i xs own4
    ⟨W3.heap.size, 0, none⟩ 1 1 (rcs g cap o) rfl (fun j u hj => by
      rw [add_o, Nat.zero_add]
      refine k4.cell j ?_
      simpa using hj) (rcs_one g cap o) (by decide) (by have : (2000 : Nat) ≤ maxLen := by decide
                                                        omega) (by omega) hbase _ rfl
  have hgr5 : GrownS W4 W5 (fun k => v.ownBlock = some k) := GrownS.of o3 (fun k e => e.symm)
  have hvb : ∀ k, v.ownBlock = some k → w.heap.size ≤ k := fun k hk => (own.lt k hk).1
  have hlen : xs.length = i * 5 := own.1
  refine ⟨_, W5, fun ty => hr, ⟨_, _, _, rfl⟩, ⟨?_, ⟨xs ++ rcs g cap o, o2, fun m o' hm ho' j hj => ?_⟩, fun m x hm hx => ?_, fun m k x y hm hk hx hy hne => ?_⟩⟩
  · exact ((H.bel.trans (hg3.below H.bel.size (fun _ e => e.elim))).trans (hb4.mono (Nat.le_trans H.bel.size hg3.size))).trans (hgr5.below hbase hvb)
  · rw [List.getElem?_append]
    by_cases e : m = i
    · subst e
      rw [ho] at ho'
      injection ho' with ho'
      subst ho'
      rw [if_neg (by omega), show m * 5 + j - xs.length = j by omega, show updN h' m g m = g from if_pos rfl, show updN c' m cap m = cap from if_pos rfl]
      exact rcs_get g cap o hj
    · rw [if_pos (by omega), show updN h' i g m = h' m from if_neg e, show updN c' i cap m = c' m from if_neg e]
      exact hxs m o' (by omega) ho' j hj
  · have keep : ∀ (h : Nat) (f : Nat → Bool), HasRow W3 h f → HasRow W5 h f := fun h f hh => by
      have h4 := hh.grownS (S := fun _ => False) (grownS_of_below hb4) (fun e => e)
      obtain ⟨ds, d1, _⟩ := h4
      refine HasRow.grownS (hh.grownS (S := fun _ => False) (grownS_of_below hb4) (fun e => e)) hgr5 (fun e => ?_)
      exact own_type own4 d1 (by decide) e.symm
    by_cases e : m = i
    · subst e
      rw [ho] at hx
      injection hx with hx
      obtain ⟨a1, a2⟩ := hhas x hx
      rw [show updN h' m g m = g from if_pos rfl]
      exact ⟨keep _ _ a1, Nat.le_trans H.bel.size a2⟩
    · rw [show updN h' i g m = h' m from if_neg e]
      obtain ⟨a1, a2⟩ := H.has m x (by omega) hx
      exact ⟨keep _ _ (a1.grownS hg3 (fun e => e)), a2⟩
  · have hlt : ∀ (m : Nat) (x : Nd), m < i → ((none : Option Nd) :: T)[m]? = some (some x) → h' m < wr.heap.size := fun m x hm hx => by
      obtain ⟨⟨ds, d1, _⟩, _⟩ := H.has m x hm hx
      exact d1.lt
    unfold updN
    by_cases e1 : m = i
    · by_cases e2 : k = i
      · omega
      · rw [if_pos e1, if_neg e2]
        have := hlt k y (by omega) hy
        rw [e1] at hx
        rw [ho] at hx
        injection hx with hx
        have := (hhas x hx).2
        omega
    · by_cases e2 : k = i
      · rw [if_neg e1, if_pos e2]
        have := hlt m x (by omega) hx
        rw [e2] at hy
        rw [ho] at hy
        injection hy with hy
        have := (hhas y hy).2
        omega
      · rw [if_neg e1, if_neg e2]
        exact H.apart m k x y (by omega) (by omega) hx hy hne

end Go.Proofs.Ytcfhgjlihifmnaa
