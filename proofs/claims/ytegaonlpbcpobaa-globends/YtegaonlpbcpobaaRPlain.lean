/-
  What the document's 'Match' tells of each place, and the rows that it keeps.
-/
import Derived.Test.YtegaonlpbcpobaaRFits
import Derived.Test.YtegaonlpbcpobaaJoins
namespace Go.Proofs.Ytegaonlpbcpobaa
open Go.RowKit

/-- Do the tokens fit the text from place i on? -/
def RF (s : ByteArray) (l : List Tok) (i : Nat) : Bool := matchB (sufS s i) l
theorem RF_iff (s : ByteArray) (l : List Tok) (i : Nat) (h : i ≤ s.size) : RF s l i = true ↔ Fits l ((bs s).drop i) := by unfold RF; rw [matchB_iff, bs_suf s i h]
theorem RF_nil (s : ByteArray) (i : Nat) (h : i ≤ s.size) : RF s [] i = (i == s.size) := by
  rw [Bool.eq_iff_iff, RF_iff s [] i h, beq_iff_eq]
  show (bs s).drop i = [] ↔ _
  rw [List.drop_eq_nil_iff, bs_len]
  omega
theorem RF_many_end (s : ByteArray) (t : Tok) (l : List Tok) (hk : t.kind = 3) : RF s (t :: l) s.size = RF s l s.size := by
  rw [Bool.eq_iff_iff, RF_iff _ _ _ (Nat.le_refl _), RF_iff _ _ _ (Nat.le_refl _), List.drop_eq_nil_of_le (by rw [bs_len]; exact Nat.le_refl _)]
  constructor
  · rintro ⟨u, v, h, _, h2⟩
    have : v = [] := by
      have := congrArg List.length h
      simp at this
      exact List.eq_nil_of_length_eq_zero (by omega)
    rw [this] at h2
    exact h2
  · intro h; exact ⟨[], [], rfl, .inl hk, h⟩
theorem drop_cons (s : ByteArray) (i : Nat) (h : i < s.size) : (bs s).drop i = sb s i :: (bs s).drop (i + 1) := by
  rw [List.drop_eq_getElem_cons (i := i) (by rw [bs_len]; exact h), bs_get s i h]
theorem RF_many (s : ByteArray) (t : Tok) (l : List Tok) (hk : t.kind = 3) (i : Nat) (h : i < s.size) : RF s (t :: l) i = (RF s l i || RF s (t :: l) (i + 1)) := by
  rw [Bool.eq_iff_iff, Bool.or_eq_true, RF_iff _ _ _ (by omega), RF_iff _ _ _ (by omega), RF_iff _ _ _ (by omega), drop_cons s i h]
  constructor
  · rintro ⟨u, v, h, _, h2⟩
    cases u with
    | nil =>
      left
      have : v = sb s i :: (bs s).drop (i + 1) := h.symm
      rw [← this]; exact h2
    | cons x u =>
      right
      have e := List.cons.inj h
      exact ⟨u, v, e.2, .inl hk, h2⟩
  · rintro (h | ⟨u, v, h, _, h2⟩)
    · exact ⟨[], _, rfl, .inl hk, h⟩
    · exact ⟨sb s i :: u, v, by rw [h]; rfl, .inl hk, h2⟩
theorem RF_one_end (s : ByteArray) (t : Tok) (l : List Tok) (hk : t.kind ≠ 3) : RF s (t :: l) s.size = false := by
  rw [← Bool.not_eq_true, RF_iff _ _ _ (Nat.le_refl _), List.drop_eq_nil_of_le (by rw [bs_len]; exact Nat.le_refl _)]
  rintro ⟨u, v, h, h1, _⟩
  rcases h1 with h1 | ⟨_, c, rfl, _⟩
  · exact hk h1
  · simp at h
theorem RF_one (s : ByteArray) (t : Tok) (l : List Tok) (hk : t.kind ≠ 3) (i : Nat) (h : i < s.size) : RF s (t :: l) i = (fitsB t (sb s i) && RF s l (i + 1)) := by
  rw [Bool.eq_iff_iff, Bool.and_eq_true, RF_iff _ _ _ (by omega), RF_iff _ _ _ (by omega), drop_cons s i h]
  constructor
  · rintro ⟨u, v, h, h1, h2⟩
    rcases h1 with h1 | ⟨_, c, rfl, h3⟩
    · exact absurd h1 hk
    · have e := List.cons.inj h
      rw [e.1]
      refine ⟨h3, ?_⟩
      have : (bs s).drop (i + 1) = v := e.2
      rw [this]; exact h2
  · rintro ⟨h1, h2⟩
    exact ⟨[sb s i], _, rfl, .inr ⟨hk, _, rfl, h1⟩, h2⟩
theorem RF_zero (s : ByteArray) (l : List Tok) : RF s l 0 = matchB s l := by
  rw [Bool.eq_iff_iff, RF_iff _ _ _ (Nat.zero_le _), matchB_iff, List.drop_zero]

/-- From place I on the row holds G; ahead of it some bools. -/
def RowFrom (W : World) (h I n : Nat) (G : Nat → Bool) : Prop := (∀ j, I ≤ j → j < n → W.cell? ⟨h, 0 + j, none⟩ = some (.bool (G j))) ∧ ∀ j, j < I → ∃ x, W.cell? ⟨h, 0 + j, none⟩ = some (.bool x)
theorem RowFrom.put {W : World} {h I n : Nat} {G : Nat → Bool} {y : Bool} (hr : RowFrom W h (I + 1) n G) (hy : y = G I) : RowFrom (W.setCell ⟨h, I, none⟩ (.bool y)) h I n G := by
  obtain ⟨x, hx⟩ := hr.2 I (by omega)
  rw [Nat.zero_add] at hx
  refine ⟨fun j h1 h2 => ?_, fun j h1 => ?_⟩
  · by_cases e : j = I
    · subst e
      rw [Nat.zero_add, World.cell?_setCell_same _ _ _ hx, hy]
    · rw [World.cell?_setCell_other _ _ _ _ (addr_ne (.inr (by omega)))]
      exact hr.1 j (by omega) h2
  · rw [World.cell?_setCell_other _ _ _ _ (addr_ne (.inr (by omega)))]
    exact hr.2 j (by omega)
theorem RowFrom.of_block {W W' : World} {h I n : Nat} {G : Nat → Bool} (hr : RowFrom W h I n G) (hb : W'.heap[h]? = W.heap[h]?) : RowFrom W' h I n G :=
  ⟨fun j h1 h2 => (World.cell?_of_block (w := W) (a := ⟨h, 0 + j, none⟩) hb).trans (hr.1 j h1 h2), fun j h1 => by obtain ⟨x, hx⟩ := hr.2 j h1; exact ⟨x, (World.cell?_of_block (w := W) (a := ⟨h, 0 + j, none⟩) hb).trans hx⟩⟩

theorem made_size (n : Nat) : (made n).size = n := size_madeCells _ _
theorem made_get (n j : Nat) (h : j < n) : (made n)[j]? = some (.bool false) := by simp [made, madeCells, h, Nat.mod_one]

end Go.Proofs.Ytegaonlpbcpobaa
