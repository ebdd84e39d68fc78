/-
  Which texts tokens fit, as the document says it ('Fits'), and what the tables of the program and of the document have to do with it. No walk.
-/
import Derived.Test.YtegaonlpbcpobaaBackI
import Derived.Test.YtegaonlpbcpobaaToks
namespace Go.Proofs.Ytegaonlpbcpobaa

def One (t : Tok) (u : List Int) : Prop := t.kind = 3 ∨ (t.kind ≠ 3 ∧ ∃ c, u = [c] ∧ fitsB t c = true)
/-- A text is texts, one behind the other, of which the tokens fit one each. -/
def Fits : List Tok → List Int → Prop
  | [], s => s = []
  | t :: l, s => ∃ u v, s = u ++ v ∧ One t u ∧ Fits l v

theorem fits_append : ∀ (a b : List Tok) (s : List Int), Fits (a ++ b) s ↔ ∃ u v, s = u ++ v ∧ Fits a u ∧ Fits b v
  | [], b, s => by
    constructor
    · intro h; exact ⟨[], s, rfl, rfl, h⟩
    · rintro ⟨u, v, rfl, hu, hv⟩
      have : u = [] := hu
      subst this
      exact hv
  | t :: a, b, s => by
    constructor
    · rintro ⟨u, v, rfl, h1, h2⟩
      obtain ⟨x, y, rfl, h3, h4⟩ := (fits_append a b v).1 h2
      exact ⟨u ++ x, y, by simp, ⟨u, x, rfl, h1, h3⟩, h4⟩
    · rintro ⟨u, v, rfl, ⟨x, y, rfl, h1, h2⟩, h3⟩
      exact ⟨x, y ++ v, by simp, h1, (fits_append a b (y ++ v)).2 ⟨y, v, rfl, h2, h3⟩⟩
theorem fits_one (t : Tok) (s : List Int) : Fits [t] s ↔ One t s := by
  constructor
  · rintro ⟨u, v, rfl, h1, h2⟩
    have : v = [] := h2
    subst this
    simpa using h1
  · intro h; exact ⟨s, [], by simp, h, rfl⟩
theorem one_rev (t : Tok) (u : List Int) : One t u.reverse ↔ One t u := by
  unfold One
  constructor
  · rintro (h | ⟨h, c, h1, h2⟩)
    · exact .inl h
    · exact .inr ⟨h, c, by have := congrArg List.reverse h1; simpa using this, h2⟩
  · rintro (h | ⟨h, c, h1, h2⟩)
    · exact .inl h
    · exact .inr ⟨h, c, by rw [h1]; rfl, h2⟩
theorem fits_rev : ∀ (l : List Tok) (s : List Int), Fits l.reverse s.reverse ↔ Fits l s
  | [], s => by
    show s.reverse = [] ↔ s = []
    simp
  | t :: l, s => by
    rw [List.reverse_cons, fits_append]
    constructor
    · rintro ⟨u, v, h, h1, h2⟩
      rw [fits_one] at h2
      have e : s = v.reverse ++ u.reverse := by have := congrArg List.reverse h; simpa using this
      refine ⟨v.reverse, u.reverse, e, (one_rev t v).2 h2, ?_⟩
      have := fits_rev l u.reverse
      rw [List.reverse_reverse] at this
      exact this.1 h1
    · rintro ⟨u, v, rfl, h1, h2⟩
      exact ⟨v.reverse, u.reverse, by simp, (fits_rev l v).2 h2, (fits_one t _).2 ((one_rev t u).2 h1)⟩

/-- The bytes of a text. -/
def bs (s : ByteArray) : List Int := (List.range s.size).map (sb s)
theorem bs_len (s : ByteArray) : (bs s).length = s.size := by simp [bs]
theorem bs_get (s : ByteArray) (j : Nat) (h : j < s.size) : (bs s)[j]'(by rw [bs_len]; exact h) = sb s j := by simp [bs]

theorem anyTo_iff (f : Nat → Bool) : ∀ n, anyTo f n = true ↔ ∃ i, i < n ∧ f i = true
  | 0 => by simp [anyTo]
  | n + 1 => by
    rw [anyTo, Bool.or_eq_true, anyTo_iff f n]
    constructor
    · rintro (⟨i, h1, h2⟩ | h)
      · exact ⟨i, by omega, h2⟩
      · exact ⟨n, by omega, h⟩
    · rintro ⟨i, h1, h2⟩
      by_cases e : i = n
      · subst e; exact .inr h2
      · exact .inl ⟨i, by omega, h2⟩

theorem take_split {s u v : List Int} {j : Nat} (hj : j ≤ s.length) (h : s.take j = u ++ v) : u = s.take u.length ∧ u.length ≤ j ∧ v = (s.drop u.length).take (j - u.length) := by
  have hl : u.length + v.length = j := by
    have := congrArg List.length h
    simp at this; omega
  refine ⟨?_, by omega, ?_⟩
  · have := congrArg (List.take u.length) h
    rw [List.take_take, Nat.min_eq_left (by omega)] at this
    simpa using this.symm
  · have := congrArg (List.drop u.length) h
    rw [List.drop_take] at this
    simpa using this.symm

/-- The table says which beginnings are fitted. -/
theorem tab_iff (s : ByteArray) : ∀ (r : List Tok) (j : Nat), j ≤ s.size → (tabF s r.reverse j = true ↔ Fits r.reverse ((bs s).take j))
  | [], j, hj => by
    show ((j == 0) = true) ↔ (bs s).take j = []
    rw [beq_iff_eq]
    constructor
    · rintro rfl; rfl
    · intro h
      have := congrArg List.length h
      rw [List.length_take, bs_len, List.length_nil] at this
      omega
  | t :: r, j, hj => by
    have ht : tabF s (r.reverse ++ [t]) = stepF t s (tabF s r.reverse) := by unfold tabF; rw [List.foldl_append]; rfl
    have hlen := bs_len s
    rw [List.reverse_cons, ht, fits_append]
    unfold stepF
    by_cases hk : t.kind = 3
    · rw [if_pos hk, anyTo_iff]
      constructor
      · rintro ⟨i, h1, h2⟩
        refine ⟨(bs s).take i, ((bs s).drop i).take (j - i), ?_, (tab_iff s r i (by omega)).1 h2, (fits_one _ _).2 (.inl hk)⟩
        rw [← List.take_add, show i + (j - i) = j by omega]
      · rintro ⟨u, v, h, h1, _⟩
        obtain ⟨e1, e2, _⟩ := take_split (by omega) h
        refine ⟨u.length, by omega, (tab_iff s r u.length (by omega)).2 ?_⟩
        rw [← e1]; exact h1
    · rw [if_neg hk]
      constructor
      · intro h
        match j, hj, h with
        | i + 1, hj, h =>
          simp only [Bool.and_eq_true] at h
          refine ⟨(bs s).take i, [sb s i], ?_, (tab_iff s r i (by omega)).1 h.1, (fits_one _ _).2 (.inr ⟨hk, _, rfl, h.2⟩)⟩
          rw [← bs_get s i (by omega), List.take_append_getElem]
      · rintro ⟨u, v, h, h1, h2⟩
        rw [fits_one] at h2
        obtain ⟨e1, e2, _⟩ := take_split (by omega) h
        rcases h2 with h2 | ⟨_, c, rfl, h2⟩
        · exact absurd h2 hk
        have hl : u.length + 1 = j := by
          have := congrArg List.length h
          simp at this; omega
        subst hl
        have hc : c = sb s u.length := by
          have h3 := List.take_append_getElem (l := bs s) (i := u.length) (by omega)
          rw [h, ← e1] at h3
          have := List.append_cancel_left h3
          rw [bs_get s u.length (by omega)] at this
          simpa using this.symm
        simp only [Bool.and_eq_true]
        refine ⟨(tab_iff s r u.length (by omega)).2 (by rw [← e1]; exact h1), ?_⟩
        rw [← hc]; exact h2
theorem tabF_iff (s : ByteArray) (l : List Tok) (j : Nat) (hj : j ≤ s.size) : tabF s l j = true ↔ Fits l ((bs s).take j) := by
  have := tab_iff s l.reverse j hj
  rwa [List.reverse_reverse] at this

theorem lastI_last {f : Nat → Bool} {n : Nat} : lastI ((List.range (n + 1)).filter f) = n ↔ f n = true := by
  cases h : f n with
  | true => rw [filter_hit h, lastI_snoc]; simp
  | false =>
    rw [filter_miss h]
    simp only [Bool.false_eq_true, iff_false]
    unfold lastI
    split
    · next k hk =>
      have hm := List.mem_of_getLast? hk
      have := (List.mem_filter.1 hm).1
      rw [List.mem_range] at this
      omega
    · omega
theorem matchB_iff (s : ByteArray) (l : List Tok) : matchB s l = true ↔ Fits l (bs s) := by
  unfold matchB frontI
  rw [if_pos rfl, beq_iff_eq, lastI_last, tabF_iff s l s.size (Nat.le_refl _), List.take_of_length_le (by rw [bs_len]; exact Nat.le_refl _)]

/-- What is first and last among some numbers. -/
theorem firstI_mem {l : List Nat} (h : l ≠ []) : ∃ k ∈ l, firstI l = (k : Int) := by
  cases l with
  | nil => exact absurd rfl h
  | cons a l => exact ⟨a, by simp, rfl⟩
theorem lastI_mem {l : List Nat} (h : l ≠ []) : ∃ k ∈ l, lastI l = (k : Int) := by
  refine ⟨l.getLast h, List.getLast_mem h, ?_⟩
  unfold lastI
  rw [List.getLast?_eq_some_getLast h]
theorem first_le_last {f : Nat → Bool} : ∀ n, firstI ((List.range n).filter f) ≤ lastI ((List.range n).filter f)
  | 0 => by
    show (-1 : Int) ≤ -1
    omega
  | n + 1 => by
    cases h : f n with
    | true =>
      rw [filter_hit h, lastI_snoc]
      by_cases e : (List.range n).filter f = []
      · rw [e]; exact Int.le_refl _
      · obtain ⟨k, hk, hk2⟩ := firstI_mem e
        have : firstI ((List.range n).filter f ++ [n]) = firstI ((List.range n).filter f) := by
          cases hl : (List.range n).filter f with
          | nil => exact absurd hl e
          | cons a l => rfl
        rw [this, hk2]
        have := List.mem_range.1 (List.mem_filter.1 hk).1
        omega
    | false => rw [filter_miss h]; exact first_le_last n

end Go.Proofs.Ytegaonlpbcpobaa
