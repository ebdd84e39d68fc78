/-
  The contract of the law's 'plain': tokens, as the document's answer has them.
-/
import Derived.Test.YtegaonlpbcpobaaParse
import Derived.Test.YtegaonlpbcpobaaAwake
import Derived.Deep.RegionHeld3
import Derived.Deep.AppendLies
namespace Go.Proofs.Ytegaonlpbcpobaa
open Go.RowKit

theorem info44 : (Try.prog.info? 44).map (fun i => (i.zero, i.size, i.bytes)) = some (some (.agg #[.int .u8 0, .int .u8 0]), 2, 2) := by kernel_rfl
theorem info42 : (Try.prog.info? 42).map (fun i => (i.zero, i.size, i.bytes)) = some (some (.agg #[.int .i64 0, .int .u8 0, .bool false, .slice none 0 0]), 4, 40) := by kernel_rfl

/-- A row of ranges of the call's own, of whatever type, is a row of ranges. -/
theorem rowR_of {W : World} {base n : Nat} {e : TypeId} {v : Value} {rs : List (Int × Int)} (h : W.ownsRow base e 2 v rs.length (flatR rs)) (hl : rs.length ≤ 9223372036854775807) (hn : ∀ k, v.ownBlock = some k → k < n) : RowR n W v rs := by
  by_cases h0 : rs = []
  · subst h0
    obtain ⟨_, ⟨rfl, _⟩ | ⟨g, cap, cur, rfl, _⟩⟩ := h
    · exact ⟨_, _, rfl, Nat.le_refl _, by simp, .inl rfl⟩
    · exact ⟨_, _, rfl, by simp, by simp, .inl rfl⟩
  · obtain ⟨_, ⟨_, hz⟩ | ⟨g, cap, cur, rfl, hb, hg, hc, _, hs, htk⟩⟩ := h
    · exact absurd (List.eq_nil_of_length_eq_zero hz) h0
    · have hcell : ∀ i u, (flatR rs)[i]? = some u → W.cell? ⟨g, 0 + i, none⟩ = some u := by
        intro i u hi
        rw [← htk, List.getElem?_take] at hi
        split at hi
        · unfold World.cell?
          simp only [hg]
          simpa using hi
        · cases hi
      refine ⟨_, _, rfl, hc, hl, .inr ⟨g, 0, rfl, hn g rfl, fun j hj => ?_⟩⟩
      obtain ⟨e1, e2⟩ := flatR_get rs j hj
      exact ⟨hcell _ _ e1, hcell _ _ e2⟩

/-- The cells of a row of the call's own. -/
theorem own_cells {W : World} {base e n : Nat} {v : Value} {X : List TV} (h : W.ownsRow base e 4 v n (flatV X)) (hl : 0 < n) :
    ∃ g cap, v = .slice (some ⟨g, 0, none⟩) n cap ∧ base ≤ g ∧ g < W.heap.size ∧ n ≤ cap ∧ ∀ i u, (flatV X)[i]? = some u → W.cell? ⟨g, i, none⟩ = some u := by
  obtain ⟨_, ⟨_, h0⟩ | ⟨g, cap, cur, rfl, hb, hg, hc, _, hs, htk⟩⟩ := h
  · omega
  · refine ⟨g, cap, rfl, hb, (Array.getElem?_eq_some_iff.1 hg).1, hc, fun i u hi => ?_⟩
    rw [← htk] at hi
    rw [List.getElem?_take] at hi
    split at hi
    · unfold World.cell?
      simp only [hg]
      simpa using hi
    · cases hi

/-- Between two rounds: the tokens that have come. -/
structure PJ (w : World) (v : Value) (xs : List XT) (X : World) : Prop where
  own : X.ownsRow w.heap.size 42 4 v xs.length (flatV (xs.map valX))
  rows : ∀ x ∈ xs, X.ownsRow w.heap.size 44 2 (slX x) x.2.rs.length (flatR x.2.rs)
  bel : Below w.heap.size w X

theorem own_grown {W W' : World} {base B1 e e' size size' k n : Nat} {v u : Value} {zs xs : List Value} (hee : e ≠ e') (h : W.ownsRow base e size u n xs) (hv : W.ownsRow B1 e' size' v k zs) (hg : W.grownBy W' v.ownBlock) : W'.ownsRow base e size u n xs := by
  obtain ⟨h1, h2 | ⟨g, cap, cur, hu, hb, hc, hr⟩⟩ := h
  · exact ⟨h1, .inl h2⟩
  · refine ⟨h1, .inr ⟨g, cap, cur, hu, hb, (hg.block g (Array.getElem?_eq_some_iff.1 hc).1 (fun e => ?_)).trans hc, hr⟩⟩
    obtain ⟨_, ⟨rfl, _⟩ | ⟨g', cap', cur', rfl, _, hc', _⟩⟩ := hv
    · cases e
    · simp [Value.ownBlock] at e
      subst e
      rw [hc] at hc'
      simp at hc'
      exact hee hc'.2

theorem pj_row {w : World} {v : Value} {xs : List XT} {X : World} (h : PJ w v xs X) : TR X v (xs.map (·.2)) := by
  by_cases h0 : xs = []
  · subst h0
    obtain ⟨_, ⟨rfl, _⟩ | ⟨g, cap, cur, rfl, _⟩⟩ := h.own
    · exact ⟨_, _, rfl, Nat.le_refl _, by simp, .inl rfl⟩
    · exact ⟨_, _, rfl, by simp, by simp, .inl rfl⟩
  · obtain ⟨g, cap, rfl, hb, hg, hcap, hc⟩ := own_cells h.own (by cases xs with | nil => exact absurd rfl h0 | cons => simp)
    refine ⟨some ⟨g, 0, none⟩, cap, by simp, by simpa using hcap, by simpa using ownsRow_len h.own, .inr ⟨g, 0, rfl, hg, fun j hj => ?_⟩⟩
    have hj' : j < xs.length := by simpa using hj
    have hro := h.rows _ (List.getElem_mem hj')
    refine ⟨slX xs[j], TokCells.of_at (r := xs[j].1) (fun c u hu => ?_), ?_⟩
    · have hc4 : c < 4 := by
        have := (List.getElem?_eq_some_iff.1 hu).1
        rwa [encT_len] at this
      have := flatV_get (xs.map valX) j c (by simpa using hj') hc4
      simp only [List.getElem_map] at this hu
      rw [show valX xs[j] = valT xs[j].1 xs[j].2 from rfl, hu] at this
      have := hc _ _ this
      rwa [show 0 + j * 4 + c = j * 4 + c by omega]
    · simp only [List.getElem_map]
      exact rowR_of hro (ownsRow_len hro) (fun k hk => (ownsRow_lt hro hk).2)

theorem PJ.below {w : World} {v : Value} {xs : List XT} {X X' : World} (h : PJ w v xs X) (hb : Below X.heap.size X X') : PJ w v xs X' :=
  ⟨ownsRow_below h.own hb, fun x hx => ownsRow_below (h.rows x hx) hb, h.bel.trans (hb.mono h.bel.size)⟩

theorem own_shape {W : World} {base e size n : Nat} {v : Value} {xs : List Value} (h : W.ownsRow base e size v n xs) : ∃ a cap, v = .slice a n cap := by
  obtain ⟨_, ⟨rfl, rfl⟩ | ⟨g, cap, cur, rfl, _⟩⟩ := h
  · exact ⟨_, _, rfl⟩
  · exact ⟨_, _, rfl⟩

end Go.Proofs.Ytegaonlpbcpobaa
