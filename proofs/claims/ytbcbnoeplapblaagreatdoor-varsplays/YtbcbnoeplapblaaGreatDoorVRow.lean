/-
  Rows of variables; names in order.
-/
import Derived.Test.YtbcbnoeplapblaaGreatDoorVPar
import Derived.Test.YtbcbnoeplapblaaGreatDoorIter
import Derived.Laws.MakeOwn
import Derived.Maps.Ext
import Derived.Laws.AppendOwnNone
import Derived.Deep.AppendLies
namespace Go.Proofs.YtbcbnoeplapblaaGreatDoor
open Go.RowKit Go.Maps Go.Sort

def Vr.cells (x : Vr) : List Value := [.string (BA x.name), .string (BA x.value), .bool x.set, .bool x.ex, .bool x.ro]
def flatV (L : List Vr) : List Value := L.flatMap Vr.cells
theorem flatV_snoc (L : List Vr) (x : Vr) : flatV (L ++ [x]) = flatV L ++ [.string (BA x.name), .string (BA x.value), .bool x.set, .bool x.ex, .bool x.ro] := by simp [flatV, Vr.cells]
theorem flatV_len (L : List Vr) : (flatV L).length = L.length * 5 := by
  induction L with
  | nil => rfl
  | cons x L ih =>
    have : (flatV (x :: L)).length = x.cells.length + (flatV L).length := by simp [flatV]
    rw [this, ih]
    simp [Vr.cells]
    omega
theorem flatV_get : ∀ (L : List Vr) (i : Nat) (x : Vr), L[i]? = some x → ∀ (j : Nat) (c : Value), x.cells[j]? = some c → (flatV L)[i * 5 + j]? = some c
  | [], i, x, h, _, _, _ => by simp at h
  | y :: L, 0, x, h, j, c, hc => by
    simp at h
    subst h
    have hj : j < 5 := by have := (List.getElem?_eq_some_iff.1 hc).1; simpa [Vr.cells] using this
    show (y.cells ++ flatV L)[0 * 5 + j]? = _
    rw [List.getElem?_append_left (by simp [Vr.cells]; omega)]
    simpa using hc
  | y :: L, i + 1, x, h, j, c, hc => by
    show (y.cells ++ flatV L)[(i + 1) * 5 + j]? = _
    rw [List.getElem?_append_right (by simp [Vr.cells]; omega)]
    have e : (i + 1) * 5 + j - y.cells.length = i * 5 + j := by simp [Vr.cells]; omega
    rw [e]
    exact flatV_get L i x (by simpa using h) j c hc
/-- A slice of variables that may be read. -/
def VRow (w : World) (v : Value) (L : List Vr) : Prop := ∃ ad cap, v = .slice ad L.length cap ∧ ∀ (i : Nat) (x : Vr), L[i]? = some x → ∃ g, ad = some ⟨g, 0, none⟩ ∧ g < w.heap.size ∧ w.cell? ⟨g, i * 5, none⟩ = some (.string (BA x.name)) ∧ w.cell? ⟨g, i * 5 + 1, none⟩ = some (.string (BA x.value)) ∧ w.cell? ⟨g, i * 5 + 2, none⟩ = some (.bool x.set) ∧ w.cell? ⟨g, i * 5 + 3, none⟩ = some (.bool x.ex) ∧ w.cell? ⟨g, i * 5 + 4, none⟩ = some (.bool x.ro)
theorem VRow.below {w w' : World} {v : Value} {L : List Vr} (h : VRow w v L) (hb : Below w.heap.size w w') : VRow w' v L := by
  obtain ⟨ad, cap, h1, h2⟩ := h
  refine ⟨ad, cap, h1, fun i x hi => ?_⟩
  obtain ⟨g, h3, h4, c0, c1, c2, c3, c4⟩ := h2 i x hi
  exact ⟨g, h3, Nat.lt_of_lt_of_le h4 hb.size, (hb.cell (p := ⟨g, _, none⟩) h4).trans c0, (hb.cell (p := ⟨g, _, none⟩) h4).trans c1, (hb.cell (p := ⟨g, _, none⟩) h4).trans c2, (hb.cell (p := ⟨g, _, none⟩) h4).trans c3, (hb.cell (p := ⟨g, _, none⟩) h4).trans c4⟩
theorem VRow.of {w : World} {base n : Nat} {t : TypeId} {v : Value} {L : List Vr} (h : w.ownsRow base t 5 v n (flatV L)) (hn : n = L.length) : VRow w v L := by
  subst hn
  obtain ⟨h1, ⟨rfl, h0⟩ | ⟨g, cap, cur, rfl, hb, hg, _, _, _, htk⟩⟩ := h
  · refine ⟨none, 0, by rw [h0], fun i t hi => ?_⟩
    have : L = [] := List.eq_nil_of_length_eq_zero (by omega)
    rw [this] at hi
    simp at hi
  · refine ⟨_, cap, rfl, fun i x hi => ⟨g, rfl, (Array.getElem?_eq_some_iff.1 hg).1, ?_⟩⟩
    have hil := (List.getElem?_eq_some_iff.1 hi).1
    have key : ∀ j c, x.cells[j]? = some c → w.cell? ⟨g, i * 5 + j, none⟩ = some c := fun j c hc => by
      have hj : j < 5 := by have := (List.getElem?_eq_some_iff.1 hc).1; simpa [Vr.cells] using this
      have hp := flatV_get L i x hi j c hc
      rw [← htk, List.getElem?_take, if_pos (by omega)] at hp
      exact Blk.cell (show Blk w g t cur from hg) (i * 5 + j) (by simpa using hp)
    exact ⟨key 0 _ rfl, key 1 _ rfl, key 2 _ rfl, key 3 _ rfl, key 4 _ rfl⟩
theorem five_val {x : Vr} : ∀ u ∈ [Value.string (BA x.name), .string (BA x.value), .bool x.set, .bool x.ex, .bool x.ro], u.oneCell' = true := by
  intro u hu
  simp at hu
  rcases hu with rfl | rfl | rfl | rfl | rfl <;> rfl
theorem add_at (g j : Nat) : ((⟨g, 0, none⟩ : Addr).add j) = ⟨g, j, none⟩ := by
  by_cases h : j = 0
  · subst h; simp [Addr.add]
  · simp [Addr.add, h]
theorem five_cells {w : World} {t : TypeId} {a b c d e : Value} : ∀ j u, [a, b, c, d, e][j]? = some u → (w.alloc (.cells #[a, b, c, d, e] t)).cell? ((⟨w.heap.size, 0, none⟩ : Addr).add j) = some u := by
  intro j u hu
  have hb := Blk.new w t #[a, b, c, d, e]
  rw [add_at]
  match j, hu with
  | 0, hu => simp at hu; subst hu; exact hb.cell 0 rfl
  | 1, hu => simp at hu; subst hu; exact hb.cell 1 rfl
  | 2, hu => simp at hu; subst hu; exact hb.cell 2 rfl
  | 3, hu => simp at hu; subst hu; exact hb.cell 3 rfl
  | 4, hu => simp at hu; subst hu; exact hb.cell 4 rfl
theorem info_of {t : TypeId} {z : Option Value} {a c : Nat} (h : (Tryz.prog.info? t).map (fun i => (i.zero, i.size, i.bytes)) = some (z, a, c)) : ∃ i, Tryz.prog.info? t = some i ∧ i.zero = z ∧ i.size = a ∧ i.bytes = c := by
  cases hi : Tryz.prog.info? t with
  | none => rw [hi] at h; cases h
  | some i =>
    rw [hi] at h
    simp at h
    exact ⟨i, rfl, h.1, h.2.1, h.2.2⟩

/-! Order. -/
theorem before_lt : ∀ {a b : List UInt8}, bytesBefore a b = true → a < b
  | [], [], h => by cases h
  | [], _ :: _, _ => by simp
  | _ :: _, [], h => by cases h
  | x :: a, y :: b, h => by
    rw [bytesBefore, Bool.or_eq_true, Bool.and_eq_true, beq_iff_eq, decide_eq_true_eq] at h
    rw [List.cons_lt_cons_iff]
    rcases h with h | ⟨h1, h2⟩
    · exact .inl h
    · exact .inr ⟨h1, before_lt h2⟩
/-- The names of a map stand in order. -/
def Rising (L : List Vr) : Prop := L.Pairwise fun x y => bytesBefore x.name y.name = true
theorem MOwn.rising {w : World} {m : Option Nat} {L : List Vr} (h : MOwn w m L) : Rising L := by
  rcases h with ⟨_, rfl⟩ | ⟨r, _, ho⟩
  · exact List.Pairwise.nil
  · obtain ⟨es, he, hp, _⟩ := ho.canon strKeyed
    unfold datV at he
    injection he with he
    rw [← he, List.pairwise_map] at hp
    exact hp
theorem le_tr (a b c : List UInt8) (h1 : decide (a ≤ b) = true) (h2 : decide (b ≤ c) = true) : decide (a ≤ c) = true := by
  simp only [decide_eq_true_eq] at *
  exact List.le_trans h1 h2
theorem le_tot (a b : List UInt8) : (decide (a ≤ b) || decide (b ≤ a)) = true := by
  rcases List.le_total a b with h | h <;> simp [h]
theorem names_sorted {L : List Vr} (h : Rising L) : (L.map (·.name)).Pairwise fun a b => decide (a ≤ b) = true := by
  rw [List.pairwise_map]
  refine h.imp ?_
  intro x y hxy
  simp only [decide_eq_true_eq]
  exact List.le_of_lt (before_lt hxy)
theorem sorted_keys {L : List Vr} (h : Rising L) {ss : List (List UInt8)} (hp : ss.Perm (L.map (·.name))) : ss.mergeSort (fun x y => decide (x ≤ y)) = L.map (·.name) := by
  refine List.Perm.eq_of_pairwise ?_ (List.pairwise_mergeSort le_tr le_tot ss) (names_sorted h) ((List.mergeSort_perm ss _).trans hp)
  intro a b _ _ h1 h2
  simp only [decide_eq_true_eq] at h1 h2
  exact List.le_antisymm h1 h2
theorem keys_dat (L : List Vr) : strKeys (datV L) = L.map (·.name) := by
  show (L.map encV).map (fun p => strOf p.1) = _
  rw [List.map_map]
  rfl
theorem lt_irr : ∀ {a : List UInt8}, bytesBefore a a = false
  | [] => rfl
  | x :: a => by
    rw [bytesBefore, lt_irr (a := a)]
    simp
theorem find_at {L : List Vr} (h : Rising L) {i : Nat} {x : Vr} (hi : L[i]? = some x) : getL L x.name = x := by
  unfold getL
  have : L.find? (fun y => y.name == x.name) = some x := by
    induction L generalizing i with
    | nil => simp at hi
    | cons y L ih =>
      rw [List.find?_cons]
      have h' := List.pairwise_cons.1 h
      cases i with
      | zero =>
        simp at hi
        subst hi
        simp
      | succ i =>
        have hi' : L[i]? = some x := by simpa using hi
        have hyx := h'.1 x (List.mem_of_getElem? hi')
        have hne : (y.name == x.name) = false := by
          rw [beq_eq_false_iff_ne]
          intro e
          rw [e, lt_irr] at hyx
          cases hyx
        rw [hne]
        exact ih h'.2 hi'
  rw [this]
  rfl

end Go.Proofs.YtbcbnoeplapblaaGreatDoor
