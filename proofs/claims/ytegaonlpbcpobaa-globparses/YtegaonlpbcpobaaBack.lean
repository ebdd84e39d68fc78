/-
  The contract of 'Back': the tokens and the text read from behind.
-/
import Derived.Test.YtegaonlpbcpobaaShelf
import Derived.Test.YtegaonlpbcpobaaFront
import Derived.Test.YtegaonlpbcpobaaSpecial
import Derived.Laws.IdiomStrings
import Derived.Lib.SliceRun
namespace Go.Proofs.Ytegaonlpbcpobaa
open Go.RowKit

theorem info47 : (Try.prog.info? 47).map (fun i => (i.zero, i.size, i.bytes)) = some (some (.agg #[.int .i64 0, .int .u8 0, .bool false, .slice none 0 0]), 4, 40) := by kernel_rfl

/-- What the four cells of a token hold. -/
abbrev TV := (Option Addr × Nat × Nat) × Int × Int × Bool
def encT (x : TV) : List Value := [.int .i64 x.2.1, .int .u8 x.2.2.1, .bool x.2.2.2, .slice x.1.1 x.1.2.1 x.1.2.2]
def slV (x : TV) : Value := .slice x.1.1 x.1.2.1 x.1.2.2
def valT (v : Option Addr × Nat × Nat) (t : Tok) : TV := (v, t.kind, t.c, t.nt)
def flatV (X : List TV) : List Value := X.flatMap encT
theorem encT_len (x : TV) : (encT x).length = 4 := rfl
theorem encT_one (x : TV) : ∀ v ∈ encT x, v.oneCell' = true := by
  intro v hv
  simp [encT] at hv
  rcases hv with rfl | rfl | rfl | rfl <;> rfl
theorem flatV_len : ∀ X : List TV, (flatV X).length = X.length * 4
  | [] => rfl
  | x :: X => by
    have := flatV_len X
    simp [flatV] at this ⊢
    rw [this, encT_len]; omega
theorem flatV_one (X : List TV) : ∀ v ∈ flatV X, v.oneCell' = true := by
  intro v hv
  obtain ⟨x, _, hx⟩ := List.mem_flatMap.1 hv
  exact encT_one x v hx
theorem flatV_get : ∀ (X : List TV) (j c : Nat) (hj : j < X.length), c < 4 → (flatV X)[j * 4 + c]? = (encT X[j])[c]?
  | x :: X, 0, c, _, hc => by
    simp only [flatV, List.flatMap_cons]
    rw [List.getElem?_append_left (by rw [encT_len]; omega)]
    simp
  | x :: X, j + 1, c, hj, hc => by
    have := flatV_get X j c (by simpa using hj) hc
    simp only [flatV, List.flatMap_cons] at this ⊢
    rw [List.getElem?_append_right (by rw [encT_len]; omega), encT_len, show (j + 1) * 4 + c - 4 = j * 4 + c by omega, this]
    simp

/-- The values of a row of tokens. -/
theorem TokRow.vals {n : Nat} {W : World} {a : Option Addr} {cap : Nat} {ts : List Tok} (h : TokRow n W (.slice a ts.length cap) ts) :
    ∃ R : Nat → Option Addr × Nat × Nat, ∀ j (hj : j < ts.length), ∃ b o, a = some ⟨b, o, none⟩ ∧ b < n ∧ TokCells W b (o + j * 4) (.slice (R j).1 (R j).2.1 (R j).2.2) ts[j] ∧ RowR n W (.slice (R j).1 (R j).2.1 (R j).2.2) ts[j].rs := by
  have : ∀ j, ∃ r : Option Addr × Nat × Nat, ∀ (hj : j < ts.length), ∃ b o, a = some ⟨b, o, none⟩ ∧ b < n ∧ TokCells W b (o + j * 4) (.slice r.1 r.2.1 r.2.2) ts[j] ∧ RowR n W (.slice r.1 r.2.1 r.2.2) ts[j].rs := by
    intro j
    by_cases hj : j < ts.length
    · obtain ⟨b, o, ra, rc, ha, hb, ht, _⟩ := h.tok hj
      exact ⟨(ra, ts[j].rs.length, rc), fun _ => ⟨b, o, ha, hb, ht.toTokCells, ht.row⟩⟩
    · exact ⟨(none, 0, 0), fun hj' => absurd hj' hj⟩
  exact ⟨fun j => Classical.choose (this j), fun j => Classical.choose_spec (this j)⟩

def valsOf (R : Nat → Option Addr × Nat × Nat) (ts : List Tok) : List TV := (List.range ts.length).map fun j => valT (R j) (ts[j]?.getD ⟨0, 0, false, []⟩)
theorem valsOf_len (R : Nat → Option Addr × Nat × Nat) (ts : List Tok) : (valsOf R ts).length = ts.length := by simp [valsOf]
theorem valsOf_get (R : Nat → Option Addr × Nat × Nat) (ts : List Tok) (j : Nat) (hj : j < ts.length) : (valsOf R ts)[j]'(by rw [valsOf_len]; exact hj) = valT (R j) ts[j] := by
  simp [valsOf, hj]

theorem add_at2 (g o j : Nat) : ((⟨g, o, none⟩ : Addr).add j) = ⟨g, o + j, none⟩ := by
  by_cases h : j = 0
  · subst h; simp [Addr.add]
  · simp [Addr.add, h]

/-- The cells of a token are those of its value. -/
theorem TokCells.at {W : World} {b o : Nat} {r : Option Addr × Nat × Nat} {t : Tok} (h : TokCells W b o (.slice r.1 r.2.1 r.2.2) t) {c : Nat} {u : Value} (hc : (encT (valT r t))[c]? = some u) : W.cell? ⟨b, o + c, none⟩ = some u := by
  match c, hc with
  | 0, hc => simp [encT, valT] at hc; subst hc; exact h.k0
  | 1, hc => simp [encT, valT] at hc; subst hc; exact h.k1
  | 2, hc => simp [encT, valT] at hc; subst hc; exact h.k2
  | 3, hc => simp [encT, valT] at hc; subst hc; exact h.k3
  | c + 4, hc => simp [encT] at hc
theorem TokCells.of_at {W : World} {b o : Nat} {r : Option Addr × Nat × Nat} {t : Tok} (h : ∀ c u, (encT (valT r t))[c]? = some u → W.cell? ⟨b, o + c, none⟩ = some u) : TokCells W b o (.slice r.1 r.2.1 r.2.2) t :=
  ⟨h 0 _ rfl, h 1 _ rfl, h 2 _ rfl, h 3 _ rfl⟩

/-- All cells of a row of tokens, in order. -/
theorem TokRow.cells {W : World} {ad : Addr} {ts : List Tok} {R : Nat → Option Addr × Nat × Nat} {n : Nat}
    (h : ∀ j (hj : j < ts.length), ∃ b o, some ad = some (⟨b, o, none⟩ : Addr) ∧ b < n ∧ TokCells W b (o + j * 4) (.slice (R j).1 (R j).2.1 (R j).2.2) ts[j] ∧ RowR n W (.slice (R j).1 (R j).2.1 (R j).2.2) ts[j].rs) :
    ∀ i u, (flatV (valsOf R ts))[i]? = some u → W.cell? (ad.add i) = some u := by
  intro i u hi
  have hi' : i < ts.length * 4 := by
    have := (List.getElem?_eq_some_iff.1 hi).1
    rwa [flatV_len, valsOf_len] at this
  have hj : i / 4 < ts.length := by omega
  obtain ⟨b, o, e, _, hc, _⟩ := h (i / 4) hj
  cases e
  have hg := flatV_get (valsOf R ts) (i / 4) (i % 4) (by rw [valsOf_len]; exact hj) (by omega)
  rw [show i / 4 * 4 + i % 4 = i by omega, hi, valsOf_get R ts _ hj] at hg
  rw [add_at2]
  have := hc.at hg.symm
  rwa [show o + i / 4 * 4 + i % 4 = o + i by omega] at this

/-- What a row of tokens of the call's own is: the values R, in memory from base on; their ranges below n. -/
structure OwnT (n : Nat) (W : World) (base : Nat) (v : Value) (R : Nat → Option Addr × Nat × Nat) (ts : List Tok) : Prop where
  own : W.ownsRow base 47 4 v ts.length (flatV (valsOf R ts))
  rows : ∀ j (hj : j < ts.length), RowR n W (.slice (R j).1 (R j).2.1 (R j).2.2) ts[j].rs

/-- Its cells. -/
theorem OwnT.cell {n base : Nat} {W : World} {v : Value} {R : Nat → Option Addr × Nat × Nat} {ts : List Tok} (h : OwnT n W base v R ts) (hl : ts ≠ []) :
    ∃ g cap, v = .slice (some ⟨g, 0, none⟩) ts.length cap ∧ base ≤ g ∧ g < W.heap.size ∧ ts.length ≤ cap ∧ (∀ j, W.frozen? ⟨g, j, none⟩ = false) ∧ ∀ i u, (flatV (valsOf R ts))[i]? = some u → W.cell? ⟨g, i, none⟩ = some u := by
  obtain ⟨_, ⟨_, h0⟩ | ⟨g, cap, cur, rfl, hb, hg, hc, _, hs, htk⟩⟩ := h.own
  · exact absurd (List.eq_nil_of_length_eq_zero h0) hl
  · refine ⟨g, cap, rfl, hb, (Array.getElem?_eq_some_iff.1 hg).1, hc, free_new hg, fun i u hi => ?_⟩
    rw [← htk] at hi
    rw [List.getElem?_take] at hi
    split at hi
    · unfold World.cell?
      simp only [hg]
      simpa using hi
    · cases hi
theorem ownT_row {n base : Nat} {W : World} {v : Value} {R : Nat → Option Addr × Nat × Nat} {ts : List Tok} (h : OwnT n W base v R ts) (hm : ts.length ≤ 9223372036854775807) (hn : n ≤ W.heap.size) : TokRow W.heap.size W v ts := by
  by_cases hl : ts = []
  · subst hl
    obtain ⟨_, ⟨rfl, _⟩ | ⟨g, cap, cur, rfl, _⟩⟩ := h.own
    · exact ⟨_, _, rfl, Nat.le_refl _, by simp, .inl rfl⟩
    · exact ⟨_, _, rfl, by simp, by simp, .inl rfl⟩
  · obtain ⟨g, cap, rfl, hb, hg, hcap, _, hc⟩ := h.cell hl
    refine ⟨_, _, rfl, hcap, hm, .inr ⟨g, 0, rfl, hg, fun j hj => ⟨.slice (R j).1 (R j).2.1 (R j).2.2, TokCells.of_at (fun c u hu => ?_), (h.rows j hj).mono hn⟩⟩⟩
    have hc4 : c < 4 := by
      have := (List.getElem?_eq_some_iff.1 hu).1
      rwa [encT_len] at this
    have := flatV_get (valsOf R ts) j c (by rw [valsOf_len]; exact hj) hc4
    rw [valsOf_get R ts j hj, hu] at this
    have := hc _ _ this
    rwa [show 0 + j * 4 + c = j * 4 + c by omega]

set_option maxHeartbeats 1000000 in
theorem clone_some (n₀ : Nat) (ad : Addr) (cap : Nat) (ts : List Tok) (w : World) (hrow : TokRow n₀ w (.slice (some ad) ts.length cap) ts) (hn₀ : n₀ ≤ w.heap.size) (hlen : ts.length ≤ 1000) :
    Calls Try.prog 29 #[.slice (some ad) ts.length cap] w fun e w' => ∃ v R, e = .returned v ∧ OwnT n₀ w' w.heap.size v R ts ∧ Below w.heap.size w w' := by
  obtain ⟨i0, hi, hz0, hz1, hz2⟩ := info_parts info47
  obtain ⟨R, hR⟩ := hrow.vals
  have HR := hide hR
  have q26 := fun w => Lib.run_eql_slice_nil (P := Try.prog) w 26 47 (some ad) ts.length cap 0 0 Try.underlying26
  clear hrow hR
  go_enter Try.func29, Try.ntmps29
  go_wp2_with (at_builtin; refine wpList_append_own _ rfl _ _ 26 rfl w.heap.size 47 i0 _ 4 40 Try.underlying26 hi hz0 hz1 hz2 rfl (by decide) _ _ _ rfl (World.ownsRow_made w #[] 0 (Nat.le_refl _) (Nat.zero_le _) (by simp)) ad ts.length cap (flatV (valsOf R ts)) rfl ?qc1 ?qc2 ?qc3 ?qc4 ?qc5 ?qc6 ?_)
  case qc1 => rw [flatV_len, valsOf_len]
  case qc2 =>
    intro j u hj
    exact (((Below.refl _ w).alloc (Nat.le_refl _) _).cell (p := ad.add j) (cell_lt (TokRow.cells (unhide HR) j u hj))).trans (TokRow.cells (unhide HR) j u hj)
  case qc3 => exact flatV_one _
  case qc4 => unfold maxLen; omega
  case qc5 => omega
  case qc6 => simp
  intro v' w1 hown hgrow hnil
  have hB : Below w.heap.size w w1 := ((Below.refl _ w).alloc (Nat.le_refl _) _).grown hgrow (by simp) (by intro k hk; simp [Value.ownBlock] at hk; omega)
  have HB := hide hB
  have HO := hide hown
  clear hB hown hgrow hnil
  go_wp2
  go_ret
  refine ⟨v', R, rfl, ⟨by have := unhide HO; simpa using this, fun j hj => ?_⟩, unhide HB⟩
  obtain ⟨b, o, _, _, _, hr⟩ := (unhide HR) j hj
  exact hr.below ((unhide HB).mono hn₀)

theorem clone_any (n₀ : Nat) (v : Value) (ts : List Tok) (w : World) (hrow : TokRow n₀ w v ts) (hn₀ : n₀ ≤ w.heap.size) (hlen : ts.length ≤ 1000) :
    Calls Try.prog 29 #[v] w fun e w' => ∃ v' R, e = .returned v' ∧ OwnT n₀ w' w.heap.size v' R ts ∧ Below w.heap.size w w' := by
  obtain ⟨a, cap, rfl, _⟩ := hrow.shape
  cases a with
  | some ad => exact clone_some n₀ ad cap ts w hrow hn₀ hlen
  | none =>
    have h0 : ts = [] := by
      rcases hrow with ⟨a', cap', he, _, _, hr⟩
      cases he
      rcases hr with hr | ⟨_, _, he, _⟩
      · exact hr
      · cases he
    subst h0
    have := AnyE.slices_Clone_nil Try.cloneTok 0 cap w
    change Calls Try.prog 29 _ _ _ at this
    refine this.mono ?_
    rintro e w' ⟨rfl, rfl⟩
    exact ⟨_, fun _ => (none, 0, 0), rfl, ⟨World.ownsRow_nil _ _ _ _, fun j hj => absurd hj (by simp)⟩, Below.refl _ _⟩

end Go.Proofs.Ytegaonlpbcpobaa
