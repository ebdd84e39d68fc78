/-
  clear; Cut.
  Files (stage 14): the tree's calls that stage 13 left: Root, Read, Cut, Free.
-/
import Derived.Test.YtemologkibcdoaaM10
import Derived.Deep.RegionHeld3
import Derived.Test.YtemologkibcdoaaM27

/- clear; Cut. -/
namespace Go.Proofs.Ytemologkibcdoaa
open Go.RowKit Go.Maps

/-- What clear leaves. -/
def ClrL (w w' : World) (p : Nat) (L : Lay) (T : TB) (i : Nat) (x : Nd) (o n : Nat) : Prop :=
  ∃ l x', TL w' p { L with pf := updF L.pf i (L.pf i), l := l } (T.set i (some x')) ∧ l.length = L.l.length ∧ GrownS w w' (fun k => k = L.gs) ∧ x' = xwr x o (zerosL n)
theorem zerosL_get (n j : Nat) : (zerosL n).getD j 0 = 0 := by
  unfold zerosL
  rw [List.getD_eq_getElem?_getD, List.getElem?_replicate]
  split <;> rfl
theorem cut_eqA (x : Nd) (s : Nat) (h : s % 64 = 0) : { xkeep x (fun j => decide (j < s / 64)) with size := s } = cutN x s := by
  unfold xkeep cutN
  dsimp only
  congr 1
  · funext j
    by_cases h1 : j < s
    · simp [h1, show j / 64 < s / 64 by omega]
    · simp [h1, show ¬ j / 64 < s / 64 by omega]
  · funext j
    by_cases h1 : 64 * j < s
    · simp [h1, show j < s / 64 by omega]
    · simp [h1, show ¬ j < s / 64 by omega]
theorem cut_eqB (x : Nd) (s : Nat) (h : 0 < s % 64) : { xwr (xkeep x (fun j => decide (j < s / 64 + 1))) (64 * (s / 64) + s % 64) (zerosL (64 - s % 64)) with size := s } = cutN x s := by
  unfold xwr xkeep cutN
  have hl : (zerosL (64 - s % 64)).length = 64 - s % 64 := by simp [zerosL]
  dsimp only
  congr 1
  · funext j
    rw [hl, zerosL_get, show 64 * (s / 64) + s % 64 = s by omega]
    by_cases h1 : j < s
    · rw [if_neg (by omega), if_pos h1]
      simp [show j / 64 < s / 64 + 1 by omega]
    · rw [if_neg h1]
      by_cases h2 : j / 64 < s / 64 + 1
      · rw [if_pos (by omega)]
      · rw [if_neg (by omega)]
        simp [h2]
  · funext j
    by_cases h1 : 64 * j < s
    · simp [h1, show j < s / 64 + 1 by omega]
    · simp [h1, show ¬ j < s / 64 + 1 by omega]
end Go.Proofs.Ytemologkibcdoaa

/- Files (stage 14): the tree's calls that stage 13 left: Root, Read, Cut, Free. -/
namespace Go.Proofs.Ytemologkibcdoaa
open Go.RowKit Go.Maps

def nrdE (s : NS) (d a n : Int) : Int := if filE s d = 0 then rdE s.T d a n else filE s d
def nrdT (s : NS) (d a n : Int) : List UInt8 := if filE s d = 0 then rdT s.T d a n else []
theorem cut_kd (T : TB) (i z k : Int) : kdI (cutT T i z) k = kdI T k := by
  unfold cutT
  cases hx : ndAt T i with
  | none => rfl
  | some x =>
    dsimp only
    split
    · rfl
    · unfold kdI
      rw [set_nd hx]
      split
      · rename_i e; rw [e, hx]; rfl
      · rfl
theorem cut_len (T : TB) (i z : Int) : (cutT T i z).length = T.length := by
  unfold cutT
  split
  · rfl
  · split
    · rfl
    · simp
def ncutE (s : NS) (d z : Int) : Int := if filE s d = 0 then cutE s.T d z else filE s d
def ncutS (s : NS) (d z : Int) : NS := if filE s d = 0 then { s with T := cutT s.T d z } else s
end Go.Proofs.Ytemologkibcdoaa
