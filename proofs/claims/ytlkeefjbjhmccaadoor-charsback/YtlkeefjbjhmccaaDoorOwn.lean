/-
  Rows of bytes that a call itself makes: what appending leaves, what a text made of one is.
-/
import Derived.Test.YtlkeefjbjhmccaaDoorSpan
import Derived.Lib.UnsafeStr
import Derived.Lib.BufferRead
import Derived.Laws.IdiomStrings
namespace Go.Proofs.YtlkeefjbjhmccaaDoor
open Go.RowKit

theorem info5 : (Tryd.prog.info? 5).map (fun i => (i.zero, i.size, i.bytes)) = some (some (.int .u8 0), 1, 1) := by kernel_rfl

/-- The slice of bytes v is the call's own and holds l. -/
def OwnB (w : World) (base : Nat) (v : Value) (l : List UInt8) : Prop := w.ownsRow base 5 1 v l.length (Lib.byteCells l)

theorem ownB_nil (w : World) (base : Nat) : OwnB w base (.slice none 0 0) [] := World.ownsRow_nil _ _ _ _
theorem OwnB.alloc {w : World} {base : Nat} {v : Value} {l : List UInt8} (h : OwnB w base v l) (o : Obj) : OwnB (w.alloc o) base v l := World.ownsRow.alloc h o
theorem byteCells_append (a b : List UInt8) : Lib.byteCells (a ++ b) = Lib.byteCells a ++ Lib.byteCells b := by simp [Lib.byteCells]
theorem add_at (g j : Nat) : ((⟨g, 0, none⟩ : Addr).add j) = ⟨g, j, none⟩ := by
  by_cases h : j = 0
  · subst h; simp [Addr.add]
  · simp [Addr.add, h]
theorem OwnB.shape {w : World} {base : Nat} {v : Value} {l : List UInt8} (h : OwnB w base v l) (hl : l ≠ []) :
    ∃ g cap, v = .slice (some ⟨g, 0, none⟩) l.length cap ∧ base ≤ g ∧ g < w.heap.size ∧ ∀ j (hj : j < l.length), w.cell? ⟨g, j, none⟩ = some (.int .u8 (l[j].toNat : Int)) := by
  obtain ⟨_, ⟨_, h0⟩ | ⟨g, cap, cur, rfl, hb, hg, _, _, _, htk⟩⟩ := h
  · exact absurd (List.eq_nil_of_length_eq_zero h0) hl
  · refine ⟨g, cap, rfl, hb, ?_, fun j hj => ?_⟩
    · rcases Nat.lt_or_ge g w.heap.size with h' | h'
      · exact h'
      · rw [Array.getElem?_eq_none h'] at hg; cases hg
    · have := Lib.bytes_of_row hg (by simpa using htk) j hj
      rwa [add_at] at this
theorem OwnB.text {w : World} {base : Nat} {v : Value} {l : List UInt8} (h : OwnB w base v l) : (convert 42 9 v).run Tryd.prog w = .ok (.string ⟨l.toArray⟩) w := by
  by_cases hl : l = []
  · subst hl
    obtain ⟨_, ⟨rfl, _⟩ | ⟨g, cap, cur, rfl, _⟩⟩ := h
    · exact Lib.run_convert_nil_bytes w 42 9 5 0 Tryd.underlying42 Tryd.underlying5 Tryd.underlying9
    · exact run_convert_bytes_back w 42 9 5 ⟨g, 0, none⟩ cap [] Tryd.underlying42 Tryd.underlying5 Tryd.underlying9 (fun j hj => absurd hj (by simp))
  · obtain ⟨g, cap, rfl, _, _, hc⟩ := h.shape hl
    exact run_convert_bytes_back w 42 9 5 ⟨g, 0, none⟩ cap l Tryd.underlying42 Tryd.underlying5 Tryd.underlying9 (fun j hj => by rw [add_at]; exact hc j hj)

/-- Behind an append of the bytes c: the row holds them too. -/
theorem own_push {w1 : World} {base n : Nat} {v' : Value} {l c : List UInt8} {zs : List Value} (hn : n = l.length + c.length) (hz : zs = Lib.byteCells c) (h : w1.ownsRow base 5 1 v' n (Lib.byteCells l ++ zs)) : OwnB w1 base v' (l ++ c) := by
  unfold OwnB
  rw [byteCells_append, ← hz, List.length_append, ← hn]
  exact h
/-- Behind an append: below the row's base nothing has turned. -/
theorem own_below {w wr w1 : World} {base : Nat} {v : Value} {l : List UInt8} {o : Obj} (hown : OwnB wr base v l) (hbel : Below base w wr) (hb : base ≤ wr.heap.size) (hg : (wr.alloc o).grownBy w1 v.ownBlock) : Below base w w1 :=
  (hbel.alloc hb o).grown hg (by simp; omega) (fun k hk => (World.ownsRow.lt hown k hk).1)
theorem one_cell {w : World} {x : Value} : ∀ j u, [x][j]? = some u → (w.alloc (.cells #[x] 5)).cell? ((⟨w.heap.size, 0, none⟩ : Addr).add j) = some u := by
  intro j u hj
  match j, hj with
  | 0, hj => simp at hj; subst hj; rw [add_at]; go_simp
theorem one_is {x : Int} : ∀ u ∈ [Value.int .u8 x], u.oneCell' = true := by
  intro u hu; simp at hu; subst hu; rfl

end Go.Proofs.YtlkeefjbjhmccaaDoor
