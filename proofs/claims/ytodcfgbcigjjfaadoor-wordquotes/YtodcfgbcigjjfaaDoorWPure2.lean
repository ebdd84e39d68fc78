/-
  Words, plainly: how much a text is read as; that more fuel turns nothing.
-/
import Derived.Test.YtodcfgbcigjjfaaDoorWPure
namespace Go.Proofs.YtodcfgbcigjjfaaDoor

theorem thg_rest {n : Nat} {c : UInt8} {r rest : List UInt8} {wh d : Nat} (h : thg (n + 3) (c :: r) wh d = .ok rest) : rest.length ≤ r.length := by
  have := thg_len (n + 2) c r wh d
  rw [h] at this
  exact this
theorem mid_len (u : List UInt8) : (u.drop 1).dropLast.length ≤ u.length - 2 := by simp; omega
theorem sgn_len {c : Bool} {l t : List UInt8} {o : Int} (h : sgnL c l = some (o, t)) : t.length < l.length := by
  unfold sgnL at h
  split at h <;> simp at h <;> obtain ⟨_, rfl⟩ := h <;> simp <;> omega
theorem behind_len (l : List UInt8) : (behindL l).length ≤ l.length := by
  unfold behindL
  split <;> simp
theorem brc_congr {rd rd' : Nat → List UInt8 → Rd} {w n : Nat} {l : List UInt8} (h : ∀ w t, t.length ≤ n → rd w t = rd' w t) (hl : l.length ≤ n) : brcL rd w l = brcL rd' w l := by
  unfold brcL
  split
  · rfl
  split
  · rfl
  split
  · rfl
  cases hs : sgnL (colonL (l.drop (parN l))) (behindL (l.drop (parN l))) with
  | none => rfl
  | some x =>
    obtain ⟨op, t⟩ := x
    have h1 := sgn_len hs
    have h2 := behind_len (l.drop (parN l))
    have h3 : (l.drop (parN l)).length ≤ l.length := by simp
    simp only [h (withinW w op) t (by omega)]
theorem thn_congr {rd rd' : Nat → List UInt8 → Rd} {w n : Nat} {c : UInt8} {u rest : List UInt8} (h : ∀ w t, t.length ≤ n → rd w t = rd' w t) (hl : u.length ≤ n) : thnL rd w c u rest = thnL rd' w c u rest := by
  unfold thnL lngL
  have h1 := mid_len u
  rw [h 2 u.dropLast (by simp; omega), brc_congr (w := w) h (show (u.drop 1).dropLast.length ≤ n by omega)]
theorem thi_congr {b : Bool} {rd rd' : Nat → List UInt8 → Rd} {w n : Nat} {c : UInt8} {r : List UInt8} (h : ∀ w t, t.length ≤ n → rd w t = rd' w t) (hl : r.length ≤ n) : thiL b rd w c r = thiL b rd' w c r := by
  unfold thiL
  cases thg (3 * (r.length + 1) + 3) (c :: r) (if flagW b w c then 1 else 0) 0 with
  | err e m => rfl
  | ok rest => exact thn_congr h (by simp; omega)
theorem front_le (l : List UInt8) : frontN l ≤ l.length := by
  cases l with
  | nil => simp [frontN]
  | cons c r =>
    show (if alpB (c.toNat : Int) = true then spanN namB (c :: r) else 0) ≤ _
    have := spanN_le namB (c :: r)
    split
    · exact this
    · omega
theorem nmd_le (l : List UInt8) : nmdN l ≤ l.length := by
  unfold nmdN
  have hf := front_le l
  split
  · exact hf
  · cases l with
    | nil => simp
    | cons c r => simp only; split <;> simp
theorem thi_rest {b : Bool} {rd : Nat → List UInt8 → Rd} {w : Nat} {c : UInt8} {r : List UInt8} {ps : List Prt} {rest : List UInt8} (h : thiL b rd w c r = .ok ps rest) : rest.length ≤ r.length := by
  unfold thiL at h
  cases ht : thg (3 * (r.length + 1) + 3) (c :: r) (if flagW b w c then 1 else 0) 0 with
  | err e m => rw [ht] at h; cases h
  | ok rs =>
    rw [ht] at h
    have h1 := thg_rest ht
    simp only at h
    unfold thnL at h
    repeat' split at h
    all_goals first
      | (cases h; done)
      | (cases h; exact h1)
      | (cases h; simp; omega)
theorem rd_more {b : Bool} : ∀ (f g w : Nat) (l : List UInt8), l.length < f → l.length < g → rdL b f w l = rdL b g w l
  | 0, _, _, _, h, _ => absurd h (by omega)
  | _ + 1, 0, _, _, _, h => absurd h (by omega)
  | f + 1, g + 1, w, [], _, _ => by rw [rdL, rdL]
  | f + 1, g + 1, w, c :: r, hf, hg => by
    simp at hf hg
    rw [rdL, rdL]
    rw [thi_congr (rd := rdL b f) (rd' := rdL b g) (n := r.length) (fun w t ht => rd_more f g w t (by omega) (by omega)) (Nat.le_refl _)]
    cases ht : thiL b (rdL b g) w c r with
    | err e => rfl
    | ok ps rest =>
      have h1 := thi_rest ht
      simp only
      rw [rd_more f g w rest (by omega) (by omega)]
/-- What a text is read as. -/
def rdC (b : Bool) (w : Nat) (l : List UInt8) : Rd := rdL b (l.length + 1) w l
def Rd.pre (ps : List Prt) : Rd → Rd
  | .ok qs => .ok (ps ++ qs)
  | .err e => .err e
theorem rdC_nil (b : Bool) (w : Nat) : rdC b w [] = .ok [] := by unfold rdC; rw [rdL]
theorem rdC_err {b : Bool} {w : Nat} {c : UInt8} {r : List UInt8} {e : Int} (h : thiL b (rdC b) w c r = .err e) : rdC b w (c :: r) = .err e := by
  unfold rdC
  rw [List.length_cons, rdL, thi_congr (rd' := rdC b) (n := r.length) (fun w t ht => rd_more _ _ w t (by omega) (by omega)) (Nat.le_refl _), h]
theorem rdC_ok {b : Bool} {w : Nat} {c : UInt8} {r rest : List UInt8} {ps : List Prt} (h : thiL b (rdC b) w c r = .ok ps rest) : rdC b w (c :: r) = (rdC b w rest).pre ps := by
  have h1 := thi_rest h
  unfold rdC
  rw [List.length_cons, rdL, thi_congr (rd' := rdC b) (n := r.length) (fun w t ht => rd_more _ _ w t (by omega) (by omega)) (Nat.le_refl _), h]
  simp only
  rw [rd_more (r.length + 1) (rest.length + 1) w rest (by omega) (by omega)]
  cases rdL b (rest.length + 1) w rest <;> rfl
theorem wrd_of {b : Bool} {w : Nat} {l : List UInt8} (h : l.length ≤ 4096) : wrdL b w l = (rdC b w l).word := by
  unfold wrdL
  rw [if_neg (by omega)]
  rfl

def tlen (ps : List Prt) : Nat := (ps.map fun p => p.text.length).sum
theorem tlen_snoc (ps : List Prt) (p : Prt) : tlen (ps ++ [p]) = tlen ps + p.text.length := by simp [tlen]
theorem tlen_app (ps qs : List Prt) : tlen (ps ++ qs) = tlen ps + tlen qs := by simp [tlen]
/-- Parts of up to n parts and n bytes. -/
def Few (n : Nat) (ps : List Prt) : Prop := ps.length ≤ n ∧ tlen ps ≤ n
theorem addP_few (ps : List Prt) (p : Prt) : (addP ps p).length ≤ ps.length + 1 ∧ tlen (addP ps p) ≤ tlen ps + p.text.length := by
  rcases List.eq_nil_or_concat ps with rfl | ⟨qs, q, rfl⟩
  · rw [addP_nil]; simp [tlen]
  · obtain ⟨k, t, q, o, c, s⟩ := q
    rw [List.concat_eq_append, addP_snoc]
    split
    · simp [tlen, Prt.text]; omega
    · rw [show qs ++ [Prt.mk k t q o c s, p] = (qs ++ [.mk k t q o c s]) ++ [p] by simp, tlen_snoc]; simp
theorem fold_few : ∀ (qs ps : List Prt), (qs.foldl addP ps).length ≤ ps.length + qs.length ∧ tlen (qs.foldl addP ps) ≤ tlen ps + tlen qs
  | [], ps => by simp [tlen]
  | q :: qs, ps => by
    have h1 := fold_few qs (addP ps q)
    have h2 := addP_few ps q
    rw [List.foldl_cons]
    have h3 : tlen (q :: qs) = q.text.length + tlen qs := by simp [tlen]
    simp only [List.length_cons]
    omega
theorem few_one {n : Nat} {p : Prt} (h : p.text.length ≤ n) (h1 : 1 ≤ n) : Few n [p] := ⟨by simpa using h1, by simp [tlen]; exact h⟩
theorem few_lit {n : Nat} {t : List UInt8} {q : Bool} (h : t.length ≤ n) (h1 : 1 ≤ n) : Few n [litP t q] := few_one h h1
def FewRd (n : Nat) : Rd → Prop
  | .ok ps => Few n ps
  | .err _ => True
theorem few_word {n : Nat} {r : Rd} (h : FewRd n r) : FewRd n r.word := by
  cases r with
  | err e => trivial
  | ok ps =>
    have h1 := fold_few ps []
    exact ⟨by have := h.1; simp at h1; show (ps.foldl addP []).length ≤ n; omega, by have := h.2; have h2 : tlen ([] : List Prt) = 0 := rfl; show tlen (ps.foldl addP []) ≤ n; omega⟩
theorem par_le (l : List UInt8) : parN l ≤ l.length := by
  unfold parN
  have hf := front_le l
  split
  · exact hf
  · cases l with
    | nil => simp
    | cons c r =>
      simp only
      have := spanN_le digB (c :: r)
      split
      · simp
      · split
        · omega
        · exact this
theorem brc_text {rd : Nat → List UInt8 → Rd} {w : Nat} {l : List UInt8} {p : Prt} (h : brcL rd w l = .ok p) : p.text.length ≤ l.length := by
  unfold brcL at h
  repeat' split at h
  all_goals first
    | (cases h; done)
    | (cases h; simp [Prt.text]; done)
    | (cases h; simp [Prt.text]; omega)
theorem run_text (l : List UInt8) : (runP l).text.length ≤ l.length := by
  unfold runP
  split <;> simp [Prt.text]
  omega
theorem setQ_text (q : Bool) (p : Prt) : (setQ q p).text = p.text := by cases p; rfl
theorem thi_few {b : Bool} {rd : Nat → List UInt8 → Rd} {w : Nat} {c : UInt8} {r : List UInt8} {ps : List Prt} {rest : List UInt8} (hrd : ∀ t, t.length ≤ r.length → FewRd t.length (rd 2 t)) (h : thiL b rd w c r = .ok ps rest) : Few (r.length + 1 - rest.length) ps := by
  unfold thiL at h
  cases ht : thg (3 * (r.length + 1) + 3) (c :: r) (if flagW b w c then 1 else 0) 0 with
  | err e m => rw [ht] at h; cases h
  | ok rs =>
    rw [ht] at h
    have h1 := thg_rest ht
    simp only at h
    obtain ⟨u, hu⟩ : ∃ u, u = r.take (r.length - rs.length) := ⟨_, rfl⟩
    have hul : u.length = r.length - rs.length := by rw [hu, List.length_take]; omega
    rw [← hu] at h
    unfold thnL at h
    split at h
    · cases h
      unfold pairL
      split
      · exact ⟨by simp, by simp [tlen]⟩
      · split
        · exact few_lit (by simp; omega) (by omega)
        · split
          · exact few_lit (by simp; omega) (by omega)
          · exact few_lit (by omega) (by omega)
    split at h
    · cases h
      exact few_lit (by simp; omega) (by omega)
    split at h
    · have h2 := few_word (hrd u.dropLast (by simp; omega))
      cases hw : (rd 2 u.dropLast).word with
      | err e => rw [hw] at h; cases h
      | ok qs =>
        rw [hw] at h h2
        cases h
        split
        · exact few_lit (by simp) (by omega)
        · have h3 : u.dropLast.length ≤ u.length := by simp
          exact ⟨by have := h2.1; omega, by have := h2.2; omega⟩
    split at h
    · split at h
      · cases h
        exact few_lit (by simp; omega) (by omega)
      · cases h
        have := nmd_le rs
        refine few_one (show (rs.take (nmdN rs)).length ≤ _ by simp; omega) (by simp; omega)
    split at h
    · cases hl : lngL rd w u with
      | err e => rw [hl] at h; cases h
      | ok p =>
        rw [hl] at h
        cases h
        have h2 : p.text.length ≤ u.length := by
          unfold lngL at hl
          have h3 := mid_len u
          split at hl
          · cases hl
            have := run_text (u.drop 1).dropLast
            omega
          · have := brc_text hl
            omega
        exact few_one (by rw [setQ_text]; omega) (by omega)
    split at h
    · cases h
    · cases h
      exact few_lit (by simp; omega) (by omega)
theorem few_add {m n k : Nat} {ps qs : List Prt} (h : Few m ps) (h2 : Few n qs) (hk : m + n ≤ k) : Few k (ps ++ qs) := ⟨by rw [List.length_append]; have := h.1; have := h2.1; omega, by rw [tlen_app]; have := h.2; have := h2.2; omega⟩
theorem rdC_few (b : Bool) : ∀ (n w : Nat) (l : List UInt8), l.length ≤ n → FewRd l.length (rdC b w l)
  | _, w, [], _ => by rw [rdC_nil]; exact ⟨by simp, by simp [tlen]⟩
  | 0, _, _ :: _, h => by simp at h
  | n + 1, w, c :: r, h => by
    simp at h
    cases ht : thiL b (rdC b) w c r with
    | err e => rw [rdC_err ht]; trivial
    | ok ps rest =>
      have h1 := thi_rest ht
      have h2 := thi_few (fun t ht => rdC_few b n 2 t (by omega)) ht
      have h3 := rdC_few b n w rest (by omega)
      rw [rdC_ok ht]
      cases hr : rdC b w rest with
      | err e => trivial
      | ok qs =>
        rw [hr] at h3
        exact few_add h2 h3 (by simp; omega)

end Go.Proofs.YtodcfgbcigjjfaaDoor
