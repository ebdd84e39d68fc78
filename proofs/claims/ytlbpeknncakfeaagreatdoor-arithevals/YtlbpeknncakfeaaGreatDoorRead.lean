/-
  A whole expression is read: 'read'.
-/
import Derived.Test.YtlbpeknncakfeaaGreatDoorOperation
namespace Go.Proofs.YtlbpeknncakfeaaGreatDoor
open Go.RowKit Go.Maps
attribute [local irreducible] findOp findSign

theorem all_steps : ∀ k j, j ≤ k → CE j ∧ CC j ∧ CO j ∧ CR j
  | 0, j, hj => by
    obtain rfl : j = 0 := by omega
    exact ⟨fun _ _ _ _ _ _ _ h => by omega, fun _ _ _ _ _ _ _ h => by omega, fun _ _ _ _ _ _ _ _ _ _ h => by omega, fun _ _ _ _ _ _ _ h => by omega⟩
  | k + 1, j, hj => by
    rcases Nat.lt_or_ge j (k + 1) with h | h
    · exact all_steps k j (by omega)
    · obtain rfl : j = k + 1 := by omega
      obtain ⟨iE, iC, iO, iR⟩ := all_steps k k (Nat.le_refl _)
      exact ⟨expr_step k iE iC, choice_step k iE iC iO, op_step k iR (fun j hj => (all_steps k j (by omega)).2.2.1), operand_step k iE iR⟩

/-- The expression that all of a text is. -/
def readS (l : List UInt8) : Option E := match pExpr (5 * l.length + 5) l with
  | none => none
  | some (x, r) => if (sk r).isEmpty then some x else none
def ReadEnd (r : Option E) (e : Ending) (w' : World) : Prop := match r with
  | some x => ∃ v lo, e = .returned (.tuple #[v, .int .i64 0]) ∧ FnV v ∧ Rep lo w'.heap.size w' x v
  | none => e = .returned (.tuple #[.nilFunc, .int .i64 10])
theorem readS_cost {l : List UInt8} {x : E} (h : readS l = some x) : cost x ≤ l.length := by
  unfold readS at h
  split at h
  · cases h
  · next y r hp =>
    have := (p_len _).1 _ _ _ hp
    split at h
    · cases h; omega
    · cases h

set_option maxRecDepth 20000 in
set_option maxHeartbeats 4000000 in
theorem read_any (l : List UInt8) (w : World) (hl : l.length ≤ 100000) (hg : Glob w) :
    Calls Tryz.prog 24 #[.string (BA l)] w fun e w' => ReadEnd (readS l) e w' ∧ Below w.heap.size w w' := by
  have HG := hide hg
  clear hg
  go_enter Tryz.func24, Tryz.ntmps24
  go_wp2_with fail
  refine (ops_any w).mono ?_
  rintro e w1 ⟨b1, b2, rfl, ht, bb1, hb1, hb2⟩
  have hb := Blk.new w1 88 #[.map (some b1), .map (some b2), .string (BA l), .bool false]
  have ga := World.grownBy_alloc w1 (.cells #[.map (some b1), .map (some b2), .string (BA l), .bool false] 88) none
  have hX : Rd (w1.alloc (.cells #[.map (some b1), .map (some b2), .string (BA l), .bool false] 88)) w1.heap.size b1 b2 l false := ⟨hb, ht.kept ga (by simp) (by simp), hl⟩
  have hgX := ((unhide HG).below bb1).kept ga
  have gX := (grown_of_below bb1).trans ga
  have hsz : (w1.alloc (.cells #[.map (some b1), .map (some b2), .string (BA l), .bool false] 88)).heap.size = w1.heap.size + 1 := by simp
  have hsw : w.heap.size ≤ w1.heap.size := bb1.size
  clear ht bb1 hb1 hb2 hb ga
  go_wp2_with fail
  obtain ⟨rb, hrb⟩ : ∃ rb, rb = w1.heap.size := ⟨_, rfl⟩
  obtain ⟨X, hXe⟩ : ∃ X, X = w1.alloc (.cells #[.map (some b1), .map (some b2), .string (BA l), .bool false] 88) := ⟨_, rfl⟩
  rw [← hXe] at hX hgX gX hsz ⊢
  rw [← hrb] at hX hsz hsw ⊢
  have HX := hide hX
  have HGX := hide hgX
  have GX := hide gX
  have HSZ := hide hsz
  clear hX hgX gX hXe hrb hsz
  refine ((all_steps _ (5 * l.length + 5) (Nat.le_refl _)).1 rb b1 b2 l X (unhide HX) (unhide HGX) (Nat.le_refl _)).mono ?_
  rintro e w2 ⟨v, rfl, hv, g2, h2⟩
  have G2 := hide g2
  rcases hp : pExpr (5 * l.length + 5) l with _ | ⟨x, r⟩
  · rw [hp] at h2
    have HR : Hid (readS l = none) := hide (by unfold readS; rw [hp])
    have H2 := hide h2
    clear h2 hp g2
    go_wp2_with fail
    refine (skip_any rb b1 b2 [] true w2 (unhide H2)).mono ?_
    rintro e w3 ⟨rfl, h3, g3⟩
    have c2 := h3.c2
    have c3 := h3.c3
    have G3 := hide g3
    clear h3 g3
    go_wp2
    go_ret2
    refine ⟨by rw [unhide HR]; rfl, ?_⟩
    exact (below_of_grown (unhide GX)).grown ((unhide G2).trans (unhide G3)) (unhide GX).size (by intro j hj; cases hj; exact hsw)
  · rw [hp] at h2
    have H2 := hide h2
    clear h2 g2
    go_wp2_with fail
    refine (skip_any rb b1 b2 r false w2 (unhide H2).1).mono ?_
    rintro e w3 ⟨rfl, h3, g3⟩
    have c2 := h3.c2
    have c3 := h3.c3
    have G3 := hide g3
    clear h3 g3
    rcases hs : sk r with _ | ⟨c, r'⟩
    · have HR : Hid (readS l = some x) := hide (by unfold readS; rw [hp]; simp only []; rw [hs]; rfl)
      rw [hs] at c2
      have hem := empty_of (s := BA []) rfl
      clear hs hp
      go_wp2
      go_ret2
      refine ⟨?_, ?_⟩
      · rw [unhide HR]
        exact ⟨v, rb + 1, rfl, hv, ((unhide H2).2 (rb + 1) (by omega) (by rw [unhide HSZ]; exact Nat.le_refl _)).grown (unhide G3) (by omega)⟩
      · exact (below_of_grown (unhide GX)).grown ((unhide G2).trans (unhide G3)) (unhide GX).size (by intro j hj; cases hj; exact hsw)
    · have HR : Hid (readS l = none) := hide (by unfold readS; rw [hp]; simp only []; rw [hs]; rfl)
      rw [hs] at c2
      have hem := nonempty_of (s := BA (c :: r')) (by simp)
      clear hs hp
      go_wp2
      go_ret2
      refine ⟨by rw [unhide HR]; rfl, ?_⟩
      exact (below_of_grown (unhide GX)).grown ((unhide G2).trans (unhide G3)) (unhide GX).size (by intro j hj; cases hj; exact hsw)

end Go.Proofs.YtlbpeknncakfeaaGreatDoor
