/-
  What is written to a node without bytes.
-/
import Derived.Test.YtcfhgjlihifmnaaITxt
namespace Go.Proofs.Ytcfhgjlihifmnaa
open Go.RowKit Go.Maps

/-- A node that has just these bytes. -/
structure IsD (x : Nd) (d : List UInt8) : Prop where
  size : x.size = d.length
  byt : ∀ j, x.byt j = d.getD j 0
/-- What is written to a node without bytes, where there is room for it. -/
theorem put_all {T T' : TB} {free k : Nat} {x : Nd} {d : List UInt8} {N E : Int} (hx : T[k]? = some (some x)) (hs : x.size = 0) (hz : ∀ j, x.byt j = 0) (hh : x.has = fun _ => false) (hd : d.length ≤ 2000) (hf : 32 < free) (h : WrSp T free ((k : Int) + 1) 0 d N E T') :
    N = (d.length : Int) ∧ E = 0 ∧ ∃ x', T' = T.set k (some x') ∧ IsD x' d := by
  have hx0 := ndAt_of hx
  cases h with
  | none h => rw [hx0] at h; cases h
  | arg x _ h => omega
  | empty x' _ _ h =>
    subst h
    exact ⟨rfl, rfl, x, (set_self hx).symm, ⟨hs, fun j => by rw [hz]; rfl⟩⟩
  | big x _ h => omega
  | space x' at' hx' ha hl hd0 hp =>
    have hdl : 0 < d.length := by cases d with | nil => exact absurd rfl hd0 | cons _ _ => simp
    rw [hx0] at hx'
    injection hx' with hx'
    subst hx'
    rcases hp.ends with e | ⟨e, _⟩
    · omega
    · rw [hasP_zero] at e
      omega
  | done x' at' n hx' ha hl hd0 hn hp =>
    rw [hx0] at hx'
    injection hx' with hx'
    subst hx'
    obtain rfl : at' = 0 := by omega
    have h1 := hp.le
    obtain rfl : n = d.length := by
      rcases hp.ends with e | ⟨e, _⟩
      · omega
      · rw [hh, cnt_first (by decide) hn hp.max, cnt_no] at e
        omega
    refine ⟨rfl, rfl, putN x 0 d d.length, by rw [plc_of], ⟨?_, fun j => ?_⟩⟩
    · show Nat.max x.size (0 + d.length) = d.length
      rw [hs, Nat.zero_add]
      exact Nat.max_eq_right (Nat.zero_le _)
    · show (if 0 ≤ j ∧ j < 0 + d.length then d.getD (j - 0) 0 else x.byt j) = _
      by_cases hj : j < d.length
      · rw [if_pos (by omega), Nat.sub_zero]
      · rw [if_neg (by omega), hz, List.getD_eq_getElem?_getD, List.getElem?_eq_none (by omega)]
        rfl

end Go.Proofs.Ytcfhgjlihifmnaa
