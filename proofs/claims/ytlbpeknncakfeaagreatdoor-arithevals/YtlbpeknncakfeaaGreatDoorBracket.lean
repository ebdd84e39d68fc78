/-
  Brackets and blanks around an expression turn nothing.
-/
import Derived.Test.YtlbpeknncakfeaaGreatDoorGap2
import Derived.Test.YtlbpeknncakfeaaGreatDoorEval
namespace Go.Proofs.YtlbpeknncakfeaaGreatDoor
open Go.RowKit Go.Maps
attribute [local irreducible] findOp findSign

theorem dropWhile_nil_iff {α : Type} (p : α → Bool) : ∀ l : List α, l.dropWhile p = [] ↔ ∀ x ∈ l, p x = true
  | [] => by simp
  | a :: l => by
    rw [List.dropWhile_cons]
    by_cases h : p a = true
    · rw [if_pos h, dropWhile_nil_iff p l]; simp [h]
    · rw [if_neg h]; simp [h]
theorem sk_nil_iff (l : List UInt8) : sk l = [] ↔ ∀ x ∈ l, gaps.contains x = true := by rw [sk_eq]; exact dropWhile_nil_iff _ l
theorem trim_nil_iff (l : List UInt8) : (trimT (BA l)).size = 0 ↔ sk l = [] := by
  have h1 : (trimT (BA l)).size = (Lib.trimS l gaps).length := by
    show ((Lib.trimS l gaps).toArray).size = _
    rw [List.size_toArray]
  rw [h1, List.length_eq_zero_iff, sk_nil_iff]
  unfold Lib.trimS Lib.trimLeftS Lib.trimRightS
  rw [dropWhile_nil_iff]
  constructor
  · intro h x hx
    have h2 : l.reverse.dropWhile (gaps.contains ·) = [] := by
      cases hd : l.reverse.dropWhile (gaps.contains ·) with
      | nil => rfl
      | cons a t =>
        have h3 : ¬ gaps.contains a = true := by
          have := List.head?_dropWhile_not (gaps.contains ·) l.reverse
          rw [hd] at this
          simpa using this
        exact absurd (h a (by rw [hd]; simp)) h3
    rw [dropWhile_nil_iff] at h2
    exact h2 x (by simpa using hx)
  · intro h x hx
    have h2 : l.reverse.dropWhile (gaps.contains ·) = [] := by
      rw [dropWhile_nil_iff]
      intro y hy
      exact h y (by simpa using hy)
    rw [h2] at hx
    simp at hx

/-- A gap ahead and behind. -/
theorem read_gap (s : List UInt8) : readS (9 :: (s ++ [32])) = readS s := by
  have hK : 5 * (9 :: (s ++ [32])).length + 5 = 5 * s.length + 15 := by simp; omega
  rw [readS_fuel s (K := 5 * s.length + 15) (by omega), readS_fuel (9 :: (s ++ [32])) (K := 5 * s.length + 15) (by rw [hK]; exact Nat.le_refl _)]
  have h := (p_app tail32 (5 * s.length + 15)).1 s (9 :: (s ++ [32])) (sk_cons_gap _ (by decide))
  revert h
  cases pExpr (5 * s.length + 15) s with
  | none => intro h; rw [h (by decide)]
  | some p =>
    obtain ⟨x, r⟩ := p
    rintro ⟨r', he, hr⟩
    rw [he]
    simp only []
    have : (sk r').isEmpty = (sk r).isEmpty := by
      rw [hr, sk_append]
      split
      · next h => rw [h]; decide
      · next h =>
        cases hs : sk r with
        | nil => exact absurd hs h
        | cons => rfl
    rw [this]
theorem blank_gap (s : List UInt8) : sk (9 :: (s ++ [32])) = [] ↔ sk s = [] := by
  rw [sk_cons_gap _ (by decide), sk_append]
  constructor
  · intro h
    by_cases h0 : sk s = []
    · exact h0
    · rw [if_neg h0] at h; simp at h
  · intro h
    rw [if_pos h]; decide
theorem eval_gap (vars : (List (List UInt8 × List UInt8))) (s : List UInt8) (hs : s.length ≤ 600) : evalL vars (9 :: (s ++ [32])) = evalL vars s := by
  unfold evalL
  rw [if_neg (show ¬ 4096 < (9 :: (s ++ [32])).length by simp; omega), if_neg (show ¬ 4096 < s.length by omega), read_gap]
  by_cases h : sk s = []
  · rw [if_pos ((trim_nil_iff _).2 ((blank_gap s).2 h)), if_pos ((trim_nil_iff _).2 h)]
  · rw [if_neg (fun e => h ((blank_gap s).1 ((trim_nil_iff _).1 e))), if_neg (fun e => h ((trim_nil_iff _).1 e))]

theorem frontN_40 (t : List UInt8) : frontN (40 :: t) = 0 := rfl
theorem setAt_40 (t : List UInt8) : setAt (40 :: t) = none := rfl
theorem sign_40 : findSign [40] = none := by unfold findSign; decide
/-- What is read of an expression in brackets. -/
theorem expr_in (k : Nat) (t : List UInt8) : pExpr (k + 4) (32 :: 40 :: t) = match (match pExpr k t with | none => none | some (x, r1) => match tk 41 r1 with | none => none | some r2 => some (x, r2) : Option (E × List UInt8)) with
    | none => none
    | some (x, r) => match pLoop (k + 1) 1 x r with
      | none => none
      | some (c, r) => match tk 63 r with
        | none => some (c, sk r)
        | some r1 => match pExpr (k + 2) r1 with
          | none => none
          | some (y, r2) => match tk 58 r2 with
            | none => none
            | some r3 => match pChoice (k + 2) r3 with
              | none => none
              | some (n, r4) => some (.choice c y n, r4) := by
  have h1 : sk (32 :: 40 :: t) = 40 :: t := by rw [sk_cons_gap _ (by decide)]; rfl
  have h2 : sk (40 :: t) = 40 :: t := rfl
  rw [pExpr, h1, setAt_40]
  simp only []
  rw [pChoice, pOp, pOperand, h2]
  simp only []
  rw [sign_40]
  simp only []
  cases pExpr k t with
  | none => rfl
  | some p =>
    obtain ⟨x, r1⟩ := p
    simp only []
    cases tk 41 r1 with
    | none => rfl
    | some r2 => rfl

theorem read_in {s : List UInt8} {x : E} (h : readS s = some x) : readS (32 :: 40 :: (s ++ [41, 10])) = some x := by
  have hK : 5 * (32 :: 40 :: (s ++ [41, 10])).length + 5 ≤ 5 * s.length + 30 + 4 := by simp; omega
  rw [readS_fuel s (K := 5 * s.length + 30) (by omega)] at h
  rw [readS_fuel (32 :: 40 :: (s ++ [41, 10])) hK, expr_in]
  have ha := (p_app tail41 (5 * s.length + 30)).1 s (s ++ [41, 10]) rfl
  revert h ha
  cases pExpr (5 * s.length + 30) s with
  | none => intro h; cases h
  | some p =>
    obtain ⟨x', r⟩ := p
    intro h
    simp only [] at h
    by_cases hr : (sk r).isEmpty = true
    · rw [if_pos hr] at h
      cases h
      have hr0 : sk r = [] := by simpa using hr
      rintro ⟨r', he, hr'⟩
      rw [sk_app_nil _ hr0] at hr'
      have ht : tk 41 r' = some [10] := by
        unfold tk
        rw [hr']
        rfl
      rw [he]
      simp only []
      rw [ht]
      simp only []
      rw [show pLoop (5 * s.length + 30 + 1) 1 x [10] = some (x, []) by rw [pLoop, show sk [10] = [] from rfl, show opAt [] = none from rfl]]
      rfl
    · rw [if_neg hr] at h; cases h
theorem read_empty {s : List UInt8} (h : sk s = []) : readS (32 :: 40 :: (s ++ [41, 10])) = none := by
  have hK : 5 * (32 :: 40 :: (s ++ [41, 10])).length + 5 ≤ 5 * s.length + 30 + 4 := by simp; omega
  rw [readS_fuel _ hK, expr_in]
  have hs : sk (s ++ [41, 10]) = [41, 10] := by rw [sk_app_nil _ h]; rfl
  have h0 : pExpr (5 * s.length + 30) (s ++ [41, 10]) = none := by
    rw [show 5 * s.length + 30 = 5 * s.length + 26 + 4 by omega]
    rw [pExpr, hs, show setAt [41, 10] = none from rfl]
    simp only []
    rw [pChoice, pOp, pOperand, show sk [41, 10] = [41, 10] from rfl]
    simp only []
    rw [show findSign [41] = none by unfold findSign; decide]
    simp only []
    rw [if_neg (by decide), show pWord [41, 10] = none by kernel_rfl]
  rw [h0]
theorem read_zero {s : List UInt8} (h : sk s = []) : readS (48 :: s) = some (.num 0) := by
  have hg := (sk_nil_iff s).1 h
  have hw : pWord (48 :: s) = some (.num 0, s) := by
    have h1 : spanN namB (48 :: s) = 1 := by
      rw [spanN_cons, show namB ((48 : UInt8).toNat : Int) = true by decide, if_pos rfl]
      cases s with
      | nil => rfl
      | cons c s =>
        have hc := hg c (by simp)
        rw [spanN_cons]
        have hn : namB (c.toNat : Int) = false := by
          have : ∀ d ∈ gaps, namB (d.toNat : Int) = false := by decide
          exact this c (by simpa using hc)
        rw [hn]; rfl
    have h2 : wordL (48 :: s) = [48] := by unfold wordL; rw [h1]; rfl
    unfold pWord
    rw [h2, h1, show nameB (BA [48]) = false by kernel_rfl, if_neg (by simp), show atMost 9223372036854775807 (numW (BA [48])) = some 0 by kernel_rfl]
    rfl
  have h48 : sk (48 :: s) = 48 :: s := rfl
  rw [readS_fuel (48 :: s) (K := 5 * s.length + 10 + 4) (by simp; omega)]
  have hx : pExpr (5 * s.length + 10 + 4) (48 :: s) = some (.num 0, []) := by
    rw [pExpr, h48, show setAt (48 :: s) = none from rfl]
    simp only []
    rw [pChoice, pOp, pOperand, h48]
    simp only []
    rw [show findSign [48] = none by unfold findSign; decide]
    simp only []
    rw [if_neg (by decide), hw]
    simp only []
    rw [pLoop, h, show opAt [] = none from rfl]
    rfl
  rw [hx]
  rfl

theorem eval_in {vars : (List (List UInt8 × List UInt8))} {s : List UInt8} (hs : s.length ≤ 600) (hb : sk s ≠ []) {r : Int × (List (List UInt8 × List UInt8))} (h : evalL vars s = .ok r) : evalL vars (32 :: 40 :: (s ++ [41, 10])) = .ok r := by
  unfold evalL at h ⊢
  rw [if_neg (by omega), if_neg (fun e => hb ((trim_nil_iff _).1 e))] at h
  rw [if_neg (by simp; omega), if_neg (fun e => by have := (trim_nil_iff _).1 e; rw [sk_cons_gap _ (by decide)] at this; cases this)]
  cases hr : readS s with
  | none => rw [hr] at h; cases h
  | some x =>
    rw [hr] at h
    rw [read_in hr]
    exact h
theorem eval_empty {vars : (List (List UInt8 × List UInt8))} {s : List UInt8} (hs : s.length ≤ 600) (hb : sk s = []) : evalL vars s = .ok (0, []) ∧ evalL vars (32 :: 40 :: (s ++ [41, 10])) = .error 10 ∧ evalL [] (48 :: s) = .ok (0, []) := by
  refine ⟨?_, ?_, ?_⟩
  · unfold evalL
    rw [if_neg (by omega), if_pos ((trim_nil_iff _).2 hb)]
  · unfold evalL
    rw [if_neg (by simp; omega), if_neg (fun e => by have := (trim_nil_iff _).1 e; rw [sk_cons_gap _ (by decide)] at this; cases this), read_empty hb]
  · unfold evalL
    rw [if_neg (by simp; omega), if_neg (fun e => by have := (trim_nil_iff _).1 e; cases this), read_zero hb]
    rfl

end Go.Proofs.YtlbpeknncakfeaaGreatDoor
