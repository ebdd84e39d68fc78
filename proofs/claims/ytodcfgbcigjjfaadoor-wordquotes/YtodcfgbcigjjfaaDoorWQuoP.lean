/-
  A text in quotes, of either kind, is one quoted part: plainly.
-/
import Derived.Test.YtodcfgbcigjjfaaDoorWPure2
namespace Go.Proofs.YtodcfgbcigjjfaaDoor

def sngC (c : UInt8) : List UInt8 := if c = 39 then [39, 92, 39, 39] else [c]
def sngT (s : List UInt8) : List UInt8 := s.flatMap sngC
def escB (c : UInt8) : Bool := c == 36 || c == 34 || c == 92 || c == 96
def dblC (c : UInt8) : List UInt8 := if escB c = true then [92, c] else [c]
def dblT (s : List UInt8) : List UInt8 := s.flatMap dblC
theorem sngT_snoc (s : List UInt8) (c : UInt8) : sngT (s ++ [c]) = sngT s ++ sngC c := by simp [sngT]
theorem dblT_snoc (s : List UInt8) (c : UInt8) : dblT (s ++ [c]) = dblT s ++ dblC c := by simp [dblT]
theorem sngC_len (c : UInt8) : (sngC c).length ≤ 4 := by unfold sngC; split <;> simp
theorem dblC_len (c : UInt8) : (dblC c).length ≤ 4 := by unfold dblC; split <;> simp
theorem flat_len {f : UInt8 → List UInt8} (h : ∀ c, (f c).length ≤ 4) : ∀ s : List UInt8, (s.flatMap f).length ≤ 4 * s.length
  | [] => by simp
  | c :: s => by
    have := flat_len h s
    have := h c
    simp only [List.flatMap_cons, List.length_append, List.length_cons]
    omega
theorem sngT_len (s : List UInt8) : (sngT s).length ≤ 4 * s.length := flat_len sngC_len s
theorem dblT_len (s : List UInt8) : (dblT s).length ≤ 4 * s.length := flat_len dblC_len s

def lq (t : List UInt8) : Prt := litP t true
theorem addP_lq (a t : List UInt8) : addP [lq a] (lq t) = [lq (a ++ t)] := by
  show addP ([] ++ [Prt.mk 1 a true 0 false []]) (lq t) = _
  rw [addP_snoc, if_pos ⟨rfl, rfl, rfl⟩]
  rfl
theorem fold_lq : ∀ (ts : List (List UInt8)) (a : List UInt8), (ts.map lq).foldl addP [lq a] = [lq (a ++ ts.flatten)]
  | [], a => by simp
  | t :: ts, a => by
    rw [List.map_cons, List.foldl_cons, addP_lq, fold_lq ts]
    simp
theorem fold_lq0 (ts : List (List UInt8)) (h : ts ≠ []) : (ts.map lq).foldl addP [] = [lq ts.flatten] := by
  cases ts with
  | nil => exact absurd rfl h
  | cons t ts =>
    rw [List.map_cons, List.foldl_cons, addP_nil, fold_lq]
    simp

theorem drop39 : ∀ (a r : List UInt8), (∀ c ∈ a, c ≠ 39) → (a ++ 39 :: r).dropWhile (fun x => x != 39) = 39 :: r
  | [], r, _ => by simp
  | c :: a, r, h => by
    have hc : c ≠ 39 := h c (by simp)
    rw [List.cons_append, List.dropWhile_cons, if_pos (by simpa using hc)]
    exact drop39 a r (fun c hc => h c (by simp [hc]))
theorem take_app (a r : List UInt8) (c : UInt8) : (a ++ c :: r).take ((a ++ c :: r).length - r.length) = a ++ [c] := by
  have : (a ++ c :: r).length - r.length = (a ++ [c]).length := by simp; omega
  rw [this, show a ++ c :: r = (a ++ [c]) ++ r by simp, List.take_left]
/-- A thing in single quotes. -/
theorem thi_sng (rd : Nat → List UInt8 → Rd) (a r : List UInt8) (h : ∀ c ∈ a, c ≠ 39) : thiL true rd 0 39 (a ++ 39 :: r) = .ok [lq a] r := by
  have e : thg (3 * ((a ++ 39 :: r).length + 1) + 3) (39 :: (a ++ 39 :: r)) (if flagW true 0 39 then 1 else 0) 0 = .ok r := by
    rw [show 3 * ((a ++ 39 :: r).length + 1) + 3 = (3 * ((a ++ 39 :: r).length + 1) + 2) + 1 by omega, thg_succ, if_neg (by decide), if_neg (by decide), if_pos rfl, if_neg (by decide), drop39 a r h]
  unfold thiL
  rw [e]
  show thnL rd 0 39 _ r = _
  rw [take_app]
  unfold thnL
  rw [if_neg (by decide), if_pos ⟨rfl, by simp⟩]
  simp [lq]
/-- A thing behind a backslash. -/
theorem thi_esc (rd : Nat → List UInt8 → Rd) (w : Nat) (c : UInt8) (r : List UInt8) (hc : c ≠ 10) (hw : allW w = true → escW w c = true) : thiL true rd w 92 (c :: r) = .ok [lq [c]] r := by
  have e : ∀ wh, thg (3 * ((c :: r).length + 1) + 3) (92 :: c :: r) wh 0 = .ok r := fun wh => by
    rw [show 3 * ((c :: r).length + 1) + 3 = (3 * ((c :: r).length + 1) + 2) + 1 by omega, thg_succ, if_pos rfl]
    rfl
  unfold thiL
  rw [e]
  show thnL rd w 92 _ r = _
  rw [show (c :: r).take ((c :: r).length - r.length) = [c] from take_app [] r c]
  unfold thnL
  rw [if_pos rfl]
  unfold pairL
  rw [if_neg (by simpa using hc), if_neg (by simp)]
  cases ha : allW w with
  | false => rw [if_neg (by simp)]; rfl
  | true => rw [if_neg (by simp [hw ha])]; rfl

theorem pre_lq (t : List UInt8) (ts : List (List UInt8)) : (Rd.ok (ts.map lq)).pre [lq t] = .ok ((t :: ts).map lq) := by
  rfl
theorem rd_sng : ∀ (s a : List UInt8), (∀ c ∈ a, c ≠ 39) → ∃ ts, ts ≠ [] ∧ ts.flatten = a ++ s ∧ rdC true 0 (39 :: (a ++ (sngT s ++ [39]))) = .ok (ts.map lq)
  | [], a, h => by
    refine ⟨[a], by simp, by simp, ?_⟩
    rw [show a ++ (sngT [] ++ [39]) = a ++ 39 :: [] by rfl, rdC_ok (thi_sng (rdC true) a [] h), rdC_nil]
    rfl
  | c :: s, a, h => by
    by_cases hc : c = 39
    · subst hc
      obtain ⟨ts, h1, h2, h3⟩ := rd_sng s [] (by simp)
      refine ⟨a :: [39] :: ts, by simp, by simp [h2], ?_⟩
      rw [show a ++ (sngT (39 :: s) ++ [39]) = a ++ 39 :: (92 :: 39 :: (39 :: (sngT s ++ [39]))) by simp [sngT, sngC], rdC_ok (thi_sng (rdC true) a _ h), rdC_ok (thi_esc (rdC true) 0 39 _ (by decide) (by intro h; cases h))]
      rw [List.nil_append] at h3
      rw [h3, pre_lq, pre_lq]
    · obtain ⟨ts, h1, h2, h3⟩ := rd_sng s (a ++ [c]) (by
        intro x hx
        rcases List.mem_append.1 hx with hx | hx
        · exact h x hx
        · rw [List.mem_singleton] at hx
          rw [hx]; exact hc)
      refine ⟨ts, h1, by rw [h2]; simp, ?_⟩
      rw [← h3]
      simp [sngT, sngC, hc]
theorem sng_word (s : List UInt8) (hs : s.length ≤ 300) : wrdL true 0 (39 :: (sngT s ++ [39])) = .ok [litP s true] := by
  have hl := sngT_len s
  rw [wrd_of (by simp; omega)]
  obtain ⟨ts, h1, h2, h3⟩ := rd_sng s [] (by simp)
  rw [List.nil_append] at h3 h2
  rw [h3]
  show Rd.ok _ = _
  rw [fold_lq0 ts h1, h2]
  rfl

theorem thg_plain {f : Nat} {c : UInt8} {r : List UInt8} {d : Nat} (h : escB c = false) : thg (f + 1) (c :: r) 1 d = .ok r := by
  simp only [escB, Bool.or_eq_false_iff, beq_eq_false_iff_ne] at h
  obtain ⟨⟨⟨h1, h2⟩, h3⟩, h4⟩ := h
  rw [thg_succ, if_neg h3, if_neg h2, if_neg h1, if_neg h4]
  simp [quot]
theorem lop_dbl : ∀ (s : List UInt8) (f : Nat) (fr : List UInt8) (d : Nat), s.length + 2 ≤ f → lop f (dblT s ++ [34]) fr 34 1 d = .ok []
  | [], f, fr, d, hf => by
    obtain ⟨g, rfl⟩ : ∃ g, f = g + 1 := ⟨f - 1, by omega⟩
    show lop (g + 1) (34 :: []) fr 34 1 d = _
    rw [lop_succ, if_pos rfl]
  | c :: s, f, fr, d, hf => by
    obtain ⟨g, rfl⟩ : ∃ g, f = g + 1 + 1 := ⟨f - 2, by simp at hf; omega⟩
    have ih := lop_dbl s (g + 1) fr d (by simp at hf; omega)
    cases he : escB c with
    | true =>
      rw [show dblT (c :: s) ++ [34] = 92 :: c :: (dblT s ++ [34]) by simp [dblT, dblC, he], lop_succ, if_neg (by decide), thg_succ, if_pos rfl]
      exact ih
    | false =>
      have hc : c ≠ 34 := by
        intro e
        rw [e] at he
        cases he
      rw [show dblT (c :: s) ++ [34] = c :: (dblT s ++ [34]) by simp [dblT, dblC, he], lop_succ, if_neg hc, thg_plain he]
      exact ih
theorem thi_plain (rd : Nat → List UInt8 → Rd) (c : UInt8) (r : List UInt8) (h : escB c = false) : thiL true rd 2 c r = .ok [lq [c]] r := by
  have hc : flagW true 2 c = true := by
    simp only [escB, Bool.or_eq_false_iff] at h
    obtain ⟨⟨⟨h1, h2⟩, h3⟩, h4⟩ := h
    simp [flagW, sngW, h2]
  have e : thg (3 * (r.length + 1) + 3) (c :: r) (if flagW true 2 c then 1 else 0) 0 = .ok r := by
    rw [hc, show 3 * (r.length + 1) + 3 = (3 * (r.length + 1) + 2) + 1 by omega]
    exact thg_plain h
  unfold thiL
  rw [e]
  show thnL rd 2 c _ r = _
  rw [Nat.sub_self, List.take_zero]
  simp only [escB, Bool.or_eq_false_iff, beq_eq_false_iff_ne] at h
  obtain ⟨⟨⟨h1, h2⟩, h3⟩, h4⟩ := h
  unfold thnL
  rw [if_neg h3, if_neg (by simp), if_neg (by simp), if_neg (by simp [h1]), if_neg h1, if_neg (by simp)]
  rfl
theorem rd_dbl : ∀ s : List UInt8, rdC true 2 (dblT s) = .ok ((s.map fun c => [c]).map lq)
  | [] => by rw [show dblT [] = [] by rfl, rdC_nil]; rfl
  | c :: s => by
    have ih := rd_dbl s
    cases he : escB c with
    | true =>
      rw [show dblT (c :: s) = 92 :: c :: dblT s by simp [dblT, dblC, he], rdC_ok (thi_esc (rdC true) 2 c _ (by intro e; rw [e] at he; cases he) (by
        intro _
        simp only [escB, Bool.or_eq_true, beq_iff_eq] at he
        rcases he with ((rfl | rfl) | rfl) | rfl <;> decide)), ih, pre_lq]
      rfl
    | false =>
      rw [show dblT (c :: s) = c :: dblT s by simp [dblT, dblC, he], rdC_ok (thi_plain (rdC true) c _ he), ih, pre_lq]
      rfl
theorem flat_ones : ∀ s : List UInt8, (s.map fun c => [c]).flatten = s
  | [] => rfl
  | c :: s => by simp [flat_ones s]
theorem word_dbl (s : List UInt8) : (rdC true 2 (dblT s)).word = .ok (if s = [] then [] else [lq s]) := by
  rw [rd_dbl]
  show Rd.ok _ = _
  cases s with
  | nil => rfl
  | cons c s =>
    rw [fold_lq0 _ (by simp), flat_ones, if_neg (by simp)]
theorem dbl_word (s : List UInt8) (hs : s.length ≤ 300) : wrdL true 0 (34 :: (dblT s ++ [34])) = .ok [litP s true] := by
  have hl := dblT_len s
  have e : thiL true (rdC true) 0 34 (dblT s ++ [34]) = .ok [lq s] [] := by
    have e1 : thg (3 * ((dblT s ++ [34]).length + 1) + 3) (34 :: (dblT s ++ [34])) (if flagW true 0 34 then 1 else 0) 0 = .ok [] := by
      have hle : s.length ≤ (dblT s).length := by
        clear hl hs
        induction s with
        | nil => simp
        | cons c s ih =>
          have : 1 ≤ (dblC c).length := by unfold dblC; split <;> simp
          simp only [dblT, List.flatMap_cons, List.length_append, List.length_cons] at ih ⊢
          omega
      rw [show 3 * ((dblT s ++ [(34 : UInt8)]).length + 1) + 3 = (3 * ((dblT s ++ [(34 : UInt8)]).length + 1) + 1) + 1 + 1 by omega, thg_succ, if_neg (by decide), if_pos rfl, if_neg (by decide), cls_succ, if_neg (by decide)]
      exact lop_dbl s _ _ _ (by simp; omega)
    unfold thiL
    rw [e1]
    show thnL _ 0 34 _ [] = _
    rw [show (dblT s ++ [(34 : UInt8)]).take ((dblT s ++ [(34 : UInt8)]).length - ([] : List UInt8).length) = dblT s ++ [34] from take_app (dblT s) [] 34]
    unfold thnL
    rw [if_neg (by decide), if_neg (fun h => absurd h.1 (by decide)), if_pos ⟨rfl, by simp⟩, List.dropLast_concat, word_dbl]
    cases s with
    | nil => rfl
    | cons c s => simp
  rw [wrd_of (by simp; omega), rdC_ok e, rdC_nil]
  rfl

end Go.Proofs.YtodcfgbcigjjfaaDoor
