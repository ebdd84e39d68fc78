/-
  A text in single quotes is one quoted part: plainly.
-/
import Derived.Test.YtnamineofpeahaaGreatDoorM13
namespace Go.Proofs.YtnamineofpeahaaGreatDoor

def sngC (c : UInt8) : List UInt8 := if c = 39 then [39, 92, 39, 39] else [c]
def sngT (s : List UInt8) : List UInt8 := s.flatMap sngC
def escB (c : UInt8) : Bool := c == 36 || c == 34 || c == 92 || c == 96
def dblC (c : UInt8) : List UInt8 := if escB c = true then [92, c] else [c]
def dblT (s : List UInt8) : List UInt8 := s.flatMap dblC
theorem sngT_snoc (s : List UInt8) (c : UInt8) : sngT (s ++ [c]) = sngT s ++ sngC c := by simp [sngT]
theorem dblT_snoc (s : List UInt8) (c : UInt8) : dblT (s ++ [c]) = dblT s ++ dblC c := by simp [dblT]
theorem sngC_len (c : UInt8) : (sngC c).length ≤ 4 := by unfold sngC; split <;> simp
theorem dblC_len (c : UInt8) : (dblC c).length ≤ 4 := by unfold dblC; split <;> simp
theorem flat_len {f : UInt8 → List UInt8} (h : ∀ c, (f c).length ≤ 4) : ∀ s : List UInt8, (s.flatMap f).length ≤ 4 * s.length
 | [] => by simp
 | c :: s => by
   have := flat_len h s
   have := h c
   simp only [List.flatMap_cons, List.length_append, List.length_cons]
   omega
theorem sngT_len (s : List UInt8) : (sngT s).length ≤ 4 * s.length := flat_len sngC_len s
theorem dblT_len (s : List UInt8) : (dblT s).length ≤ 4 * s.length := flat_len dblC_len s

def lq (t : List UInt8) : Prt := litP t true
theorem addP_lq (a t : List UInt8) : addP [lq a] (lq t) = [lq (a ++ t)] := by
 show addP ([] ++ [Prt.mk 1 a true 0 false []]) (lq t) = _
 rw [addP_snoc, if_pos ⟨rfl, rfl, rfl⟩]
 rfl
theorem fold_lq : ∀ (ts : List (List UInt8)) (a : List UInt8), (ts.map lq).foldl addP [lq a] = [lq (a ++ ts.flatten)]
 | [], a => by simp
 | t :: ts, a => by
   rw [List.map_cons, List.foldl_cons, addP_lq, fold_lq ts]
   simp
theorem fold_lq0 (ts : List (List UInt8)) (h : ts ≠ []) : (ts.map lq).foldl addP [] = [lq ts.flatten] := by
 cases ts with
 | nil => exact absurd rfl h
 | cons t ts =>
   rw [List.map_cons, List.foldl_cons, addP_nil, fold_lq]
   simp

theorem drop39 : ∀ (a r : List UInt8), (∀ c ∈ a, c ≠ 39) → (a ++ 39 :: r).dropWhile (fun x => x != 39) = 39 :: r
 | [], r, _ => by simp
 | c :: a, r, h => by
   have hc : c ≠ 39 := h c (by simp)
   rw [List.cons_append, List.dropWhile_cons, if_pos (by simpa using hc)]
   exact drop39 a r (fun c hc => h c (by simp [hc]))
theorem take_app (a r : List UInt8) (c : UInt8) : (a ++ c :: r).take ((a ++ c :: r).length - r.length) = a ++ [c] := by
 have : (a ++ c :: r).length - r.length = (a ++ [c]).length := by simp; omega
 rw [this, show a ++ c :: r = (a ++ [c]) ++ r by simp, List.take_left]
/-- A thing in single quotes. -/
theorem thi_sng (rd : Nat → List UInt8 → Rd) (a r : List UInt8) (h : ∀ c ∈ a, c ≠ 39) : thiL true rd 0 39 (a ++ 39 :: r) = .ok [lq a] r := by
 have e : thg (3 * ((a ++ 39 :: r).length + 1) + 3) (39 :: (a ++ 39 :: r)) (if flagW true 0 39 then 1 else 0) 0 = .ok r := by
  rw [show 3 * ((a ++ 39 :: r).length + 1) + 3 = (3 * ((a ++ 39 :: r).length + 1) + 2) + 1 by omega, thg_succ, if_neg (by decide), if_neg (by decide), if_pos rfl, if_neg (by decide), drop39 a r h]
 unfold thiL
 rw [e]
 show thnL rd 0 39 _ r = _
 rw [take_app]
 unfold thnL
 rw [if_neg (by decide), if_pos ⟨rfl, by simp⟩]
 simp [lq]
/-- A thing behind a backslash. -/
theorem thi_esc (rd : Nat → List UInt8 → Rd) (w : Nat) (c : UInt8) (r : List UInt8) (hc : c ≠ 10) (hw : allW w = true → escW w c = true) : thiL true rd w 92 (c :: r) = .ok [lq [c]] r := by
 have e : ∀ wh, thg (3 * ((c :: r).length + 1) + 3) (92 :: c :: r) wh 0 = .ok r := fun wh => by
  rw [show 3 * ((c :: r).length + 1) + 3 = (3 * ((c :: r).length + 1) + 2) + 1 by omega, thg_succ, if_pos rfl]
  rfl
 unfold thiL
 rw [e]
 show thnL rd w 92 _ r = _
 rw [show (c :: r).take ((c :: r).length - r.length) = [c] from take_app [] r c]
 unfold thnL
 rw [if_pos rfl]
 unfold pairL
 rw [if_neg (by simpa using hc), if_neg (by simp)]
 cases ha : allW w with
 | false => rw [if_neg (by simp)]; rfl
 | true => rw [if_neg (by simp [hw ha])]; rfl

theorem pre_lq (t : List UInt8) (ts : List (List UInt8)) : (Rd.ok (ts.map lq)).pre [lq t] = .ok ((t :: ts).map lq) := by
 rfl
theorem rd_sng : ∀ (s a : List UInt8), (∀ c ∈ a, c ≠ 39) → ∃ ts, ts ≠ [] ∧ ts.flatten = a ++ s ∧ rdC true 0 (39 :: (a ++ (sngT s ++ [39]))) = .ok (ts.map lq)
 | [], a, h => by
   refine ⟨[a], by simp, by simp, ?_⟩
   rw [show a ++ (sngT [] ++ [39]) = a ++ 39 :: [] by rfl, rdC_ok (thi_sng (rdC true) a [] h), rdC_nil]
   rfl
 | c :: s, a, h => by
   by_cases hc : c = 39
   ·subst hc
    obtain ⟨ts, h1, h2, h3⟩ := rd_sng s [] (by simp)
    refine ⟨a :: [39] :: ts, by simp, by simp [h2], ?_⟩
    rw [show a ++ (sngT (39 :: s) ++ [39]) = a ++ 39 :: (92 :: 39 :: (39 :: (sngT s ++ [39]))) by simp [sngT, sngC], rdC_ok (thi_sng (rdC true) a _ h), rdC_ok (thi_esc (rdC true) 0 39 _ (by decide) (by intro h; cases h))]
    rw [List.nil_append] at h3
    rw [h3, pre_lq, pre_lq]
   ·obtain ⟨ts, h1, h2, h3⟩ := rd_sng s (a ++ [c]) (by
     intro x hx
     rcases List.mem_append.1 hx with hx | hx
     ·exact h x hx
     ·rw [List.mem_singleton] at hx
      rw [hx]; exact hc)
    refine ⟨ts, h1, by rw [h2]; simp, ?_⟩
    rw [← h3]
    simp [sngT, sngC, hc]
theorem sng_word (s : List UInt8) (hs : s.length ≤ 300) : wrdL true 0 (39 :: (sngT s ++ [39])) = .ok [litP s true] := by
 have hl := sngT_len s
 rw [wrd_of (by simp; omega)]
 obtain ⟨ts, h1, h2, h3⟩ := rd_sng s [] (by simp)
 rw [List.nil_append] at h3 h2
 rw [h3]
 show Rd.ok _ = _
 rw [fold_lq0 ts h1, h2]
 rfl


end Go.Proofs.YtnamineofpeahaaGreatDoor
