/-
  The lexer's tokens and awaited texts: what a store turns, and what it leaves.
-/
import Derived.Test.YtlmpdfeidjnmnaaDoorTakeUp
namespace Go.Proofs.YtlmpdfeidjnmnaaDoor
open Go.RowKit

theorem own_grownS {w w1 : World} {base n sz : Nat} {e : TypeId} {v : Value} {xs : List Value} {S : Nat → Prop} (h : w.ownsRow base e sz v n xs) (hg : GrownS w w1 S) (hv : ∀ k, v.ownBlock = some k → ¬ S k) : w1.ownsRow base e sz v n xs := by
  obtain ⟨h0, h1 | ⟨g, cap, cur, rfl, h2, h3, h4⟩⟩ := h
  · exact ⟨h0, .inl h1⟩
  · exact ⟨h0, .inr ⟨g, cap, cur, rfl, h2, (hg.block g (Array.getElem?_eq_some_iff.1 h3).1 (hv g rfl)).trans h3, h4⟩⟩
theorem Toks.grownS {w w1 : World} {base : Nat} {v : Value} {ps : List Nat} {ts : List Tok} {S : Nat → Prop} (h : Toks w base v ps ts) (hg : GrownS w w1 S) (hv : ∀ k, v.ownBlock = some k → ¬ S k) (hp : ∀ p ∈ ps, ¬ S p) : Toks w1 base v ps ts :=
  ⟨own_grownS h.row hg hv, h.len, fun i p t h1 h2 => ⟨(h.blk i p t h1 h2).1, (h.blk i p t h1 h2).2.grownS hg (hp p (List.mem_of_getElem? h1))⟩, h.inc⟩
theorem inc_ne {ps : List Nat} (h : ps.Pairwise (fun a b => a < b)) {i j p : Nat} (hi : ps[i]? = some p) (hj : ps[j]? = some p) : i = j := by
  obtain ⟨hi1, hi2⟩ := List.getElem?_eq_some_iff.1 hi
  obtain ⟨hj1, hj2⟩ := List.getElem?_eq_some_iff.1 hj
  rw [List.pairwise_iff_getElem] at h
  rcases Nat.lt_trichotomy i j with hlt | heq | hgt
  · have := h i j hi1 hj1 hlt; omega
  · exact heq
  · have := h j i hj1 hi1 hgt; omega
/-- A cell of one token is written. -/
theorem Toks.write {w : World} {base : Nat} {v : Value} {ps : List Nat} {ts : List Tok} (h : Toks w base v ps ts) {i p c : Nat} {t : Tok} {x : Value} (g : Tok → Tok) (hp : ps[i]? = some p) (ht : ts[i]? = some t) (hc : (g t).cells = t.cells.setIfInBounds c x) : Toks (w.setCell ⟨p, c, none⟩ x) base v ps (ts.modify i g) := by
  have hb := (h.blk i p t hp ht).2
  refine ⟨h.row.kept (row := some p) (grown_setCell w ⟨p, c, none⟩ x) (Or.inr (fun e => own_type h.row hb (by decide) e.symm)), by rw [List.length_modify]; exact h.len, ?_, h.inc⟩
  intro j p' t' hp' ht'
  rw [List.getElem?_modify] at ht'
  by_cases hij : i = j
  · subst hij
    rw [hp] at hp'
    injection hp' with hp'
    subst hp'
    rw [ht] at ht'
    have ht' : g t = t' := by simpa using ht'
    subst ht'
    refine ⟨(h.blk i p t hp ht).1, ?_⟩
    rw [hc]
    exact hb.set c x
  · have ht2 : ts[j]? = some t' := by
      simpa [hij] using ht'
    obtain ⟨h1, h2⟩ := h.blk j p' t' hp' ht2
    exact ⟨h1, h2.other (a := ⟨p, c, none⟩) (fun e => hij (inc_ne h.inc (by rw [← show p' = p from e] at hp; exact hp) hp')) x⟩

/-- u is the lexer's own row of the awaited texts ws, which lie in the blocks ks; their tokens in the blocks ps. -/
structure Wts (w : World) (base : Nat) (u : Value) (ks ps : List Nat) (ws : List Wt) : Prop where
  row : w.ownsRow base 58 1 u ks.length (ptrs ks)
  len : ks.length = ws.length
  blk : ∀ (i k : Nat) (x : Wt), ks[i]? = some k → ws[i]? = some x → base ≤ k ∧ ∃ q, ps[x.tok]? = some q ∧ Blk w k 57 (wtCells q (BA x.en) x.tabs)
theorem wts_nil (w : World) (base : Nat) (ps : List Nat) : Wts w base (.slice none 0 0) [] ps [] :=
  ⟨World.ownsRow_nil _ _ _ _, rfl, fun i k x h => by simp at h⟩
theorem Wts.grownS {w w1 : World} {base : Nat} {u : Value} {ks ps : List Nat} {ws : List Wt} {S : Nat → Prop} (h : Wts w base u ks ps ws) (hg : GrownS w w1 S) (hv : ∀ k, u.ownBlock = some k → ¬ S k) (hp : ∀ k ∈ ks, ¬ S k) : Wts w1 base u ks ps ws := by
  refine ⟨own_grownS h.row hg hv, h.len, fun i k x h1 h2 => ?_⟩
  obtain ⟨h3, q, h4, h5⟩ := h.blk i k x h1 h2
  exact ⟨h3, q, h4, h5.grownS hg (hp k (List.mem_of_getElem? h1))⟩
/-- More tokens turn nothing. -/
theorem Wts.more {w : World} {base : Nat} {u : Value} {ks ps : List Nat} {ws : List Wt} (h : Wts w base u ks ps ws) (qs : List Nat) : Wts w base u ks (ps ++ qs) ws := by
  refine ⟨h.row, h.len, fun i k x h1 h2 => ?_⟩
  obtain ⟨h3, q, h4, h5⟩ := h.blk i k x h1 h2
  exact ⟨h3, q, by rw [List.getElem?_append_left (List.getElem?_eq_some_iff.1 h4).1]; exact h4, h5⟩

end Go.Proofs.YtlmpdfeidjnmnaaDoor
