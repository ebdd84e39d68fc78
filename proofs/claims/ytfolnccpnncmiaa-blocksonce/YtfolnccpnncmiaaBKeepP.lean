/-
  BlocksKeeps, in pure form: the store as it is filled, written and read.
-/
import Derived.Test.YtfolnccpnncmiaaBMem
namespace Go.Proofs.Ytfolnccpnncmiaa
open Go.RowKit

theorem free_set {l : BL} {i : Nat} {x y : List UInt8} (h : l[i]? = some x) : freeN (l.set i y) + (if x.isEmpty then 1 else 0) = freeN l + (if y.isEmpty then 1 else 0) := by
  have hi := (List.getElem?_eq_some_iff.1 h).1
  have hx : l[i] = x := by rw [List.getElem?_eq_getElem hi] at h; exact Option.some.inj h
  have h1 := List.countP_set (p := fun y : List UInt8 => y.isEmpty) (l := l) (i := i) (a := y) hi
  unfold freeN
  rw [h1, hx]
  by_cases hp : x.isEmpty = true
  · have : 0 < l.countP (fun y => y.isEmpty) := List.countP_pos_iff.2 ⟨x, List.mem_of_getElem? h, hp⟩
    simp only [hp, if_true]
    omega
  · simp only [hp]
    simp
theorem freeAt_eq {l : BL} {k : Nat} (h1 : ∀ i, i < k → ∃ x, l[i]? = some x ∧ x ≠ []) (h2 : l[k]? = some []) : freeAt l = k := by
  have hk := (List.getElem?_eq_some_iff.1 h2).1
  refine (List.findIdx_eq hk).2 ⟨?_, fun j hj => ?_⟩
  · rw [List.getElem?_eq_getElem hk] at h2
    rw [Option.some.inj h2]
    rfl
  · obtain ⟨x, hx, hne⟩ := h1 j hj
    have hj2 := (List.getElem?_eq_some_iff.1 hx).1
    rw [List.getElem?_eq_getElem hj2] at hx
    rw [Option.some.inj hx]
    cases x with
    | nil => exact absurd rfl hne
    | cons => rfl
def byt (i : Nat) : UInt8 := UInt8.ofNat i
def hdr (c : UInt8) : List UInt8 := [c, 1, 2] ++ List.replicate 61 0
theorem hdr_len (c : UInt8) : (hdr c).length = 64 := by simp [hdr]
theorem hdr_ne (c : UInt8) : hdr c ≠ [] := by simp [hdr]
theorem put_hdr (c : UInt8) : putAt z64 0 [c, 1, 2] = hdr c := by rfl
def fillL (n k : Nat) : BL := (List.range n).map fun i => if i < k then hdr (byt (i + 1)) else []
theorem fill_len (n k : Nat) : (fillL n k).length = n := by simp [fillL]
theorem fill_get {n k i : Nat} (h : i < n) : (fillL n k)[i]? = some (if i < k then hdr (byt (i + 1)) else []) := by simp [fillL, h]
theorem fill_0 (n : Nat) : fillL n 0 = List.replicate n [] := by
  apply List.ext_getElem?
  intro i
  by_cases h : i < n
  · rw [fill_get h, List.getElem?_replicate, if_pos h, if_neg (by omega)]
  · rw [List.getElem?_eq_none (by rw [fill_len]; omega), List.getElem?_eq_none (by rw [List.length_replicate]; omega)]
theorem fill_set {n k : Nat} (h : k < n) : (fillL n k).set k (hdr (byt (k + 1))) = fillL n (k + 1) := by
  apply List.ext_getElem?
  intro i
  rw [List.getElem?_set, fill_len]
  by_cases hi : i < n
  · rw [fill_get hi, fill_get hi]
    by_cases e : k = i
    · subst e
      rw [if_pos rfl, if_pos h, if_pos (by omega)]
    · rw [if_neg e]
      by_cases e2 : i < k
      · rw [if_pos e2, if_pos (by omega)]
      · rw [if_neg e2, if_neg (by omega)]
  · rw [if_neg (by omega), List.getElem?_eq_none (by rw [fill_len]; omega), List.getElem?_eq_none (by rw [fill_len]; omega)]
theorem fill_free {n k : Nat} (h : k < n) : freeAt (fillL n k) = k :=
  freeAt_eq (fun i hi => ⟨_, fill_get (by omega), by rw [if_pos hi]; exact hdr_ne _⟩) (by rw [fill_get h, if_neg (by omega)])
theorem fill_takeN {n k : Nat} (h : k < n) : takeN (fillL n k) = (k : Int) + 1 := by unfold takeN; rw [fill_free h, fill_len, if_pos h]
theorem fill_takeE {n k : Nat} (h : k < n) : takeE (fillL n k) = 0 := by unfold takeE; rw [fill_free h, fill_len, if_pos h]
theorem fill_takeL {n k : Nat} (h : k < n) : takeL (fillL n k) = (fillL n k).set k z64 := by unfold takeL; rw [fill_free h, fill_len, if_pos h]
theorem set_get {l : BL} {k : Nat} {x : List UInt8} (h : k < l.length) : (l.set k x)[k]? = some x := by rw [List.getElem?_set, if_pos rfl, if_pos h]
theorem tkn_at {l : BL} {i : Nat} {x : List UInt8} (h : l[i]? = some x) (hne : x ≠ []) : tkn l ((i : Int) + 1) = true := by
  rw [tkn_of h]
  cases x with
  | nil => exact absurd rfl hne
  | cons => rfl
theorem getD_at {l : BL} {i : Nat} {x : List UInt8} (h : l[i]? = some x) : l.getD ((i : Int) + 1 - 1).toNat [] = x := by rw [show ((i : Int) + 1 - 1).toNat = i by omega, List.getD_eq_getElem?_getD, h]; rfl
theorem inB_of {a n : Nat} (h : a + n ≤ 64) : inB (a : Int) (n : Int) = true := by unfold inB; simp; omega
theorem write_at {l : BL} {i o : Nat} {x d : List UInt8} (h : l[i]? = some x) (hne : x ≠ []) (ho : o + d.length ≤ 64) : writeE l ((i : Int) + 1) (o : Int) d = 0 ∧ writeL l ((i : Int) + 1) (o : Int) d = l.set i (putAt x o d) := by
  unfold writeE writeL
  rw [tkn_at h hne, inB_of ho, getD_at h, show ((i : Int) + 1 - 1).toNat = i by omega]
  exact ⟨rfl, rfl⟩
theorem read_at {l : BL} {i o k : Nat} {x : List UInt8} (h : l[i]? = some x) (hne : x ≠ []) (ho : o + k ≤ 64) : readT l ((i : Int) + 1) (o : Int) (k : Int) = (x.drop o).take k ∧ readE l ((i : Int) + 1) (o : Int) (k : Int) = 0 := by
  unfold readT readE
  rw [tkn_at h hne, inB_of ho, getD_at h]
  exact ⟨rfl, rfl⟩
theorem z64_ne : z64 ≠ [] := by decide
theorem fill_write {n k : Nat} (h : k < n) : writeE ((fillL n k).set k z64) ((k : Int) + 1) 0 [byt (k + 1), 1, 2] = 0 ∧ writeL ((fillL n k).set k z64) ((k : Int) + 1) 0 [byt (k + 1), 1, 2] = fillL n (k + 1) := by
  have := write_at (l := (fillL n k).set k z64) (i := k) (o := 0) (x := z64) (d := [byt (k + 1), 1, 2]) (set_get (by rw [fill_len]; exact h)) z64_ne (by simp)
  rw [List.set_set, put_hdr, fill_set h] at this
  exact this
theorem whole {x : List UInt8} (h : x.length = 64) : (x.drop 0).take 64 = x := by rw [List.drop_zero, List.take_of_length_le (by omega)]
theorem read_all {l : BL} {i : Nat} {x : List UInt8} (h : l[i]? = some x) (hl : x.length = 64) : readT l ((i : Int) + 1) 0 64 = x ∧ readE l ((i : Int) + 1) 0 64 = 0 := by
  have := read_at (o := 0) (k := 64) h (fun e => by rw [e] at hl; cases hl) (by omega)
  rw [whole hl] at this
  exact this
theorem fill_count (n : Nat) : ∀ k, k ≤ n → freeN (fillL n k) = n - k
  | 0, _ => by rw [fill_0]; unfold freeN; rw [List.countP_replicate]; rfl
  | k + 1, h => by
    have h1 := fill_count n k (by omega)
    have h2 := free_set (l := fillL n k) (i := k) (x := []) (y := hdr (byt (k + 1))) (by rw [fill_get (by omega), if_neg (by omega)])
    rw [fill_set (by omega), h1] at h2
    have h3 : (hdr (byt (k + 1))).isEmpty = false := by simp [hdr]
    rw [h3] at h2
    simp at h2
    omega
theorem keep_count {n k j : Nat} (hj : j < k) (hk : k ≤ n) {y : List UInt8} (hy : y.length = 64) : freeN ((fillL n k).set j y) = n - k := by
  have h2 := free_set (l := fillL n k) (i := j) (y := y) (fill_get (by omega))
  rw [if_pos hj, fill_count n k hk] at h2
  have h3 : (hdr (byt (j + 1))).isEmpty = false := by simp [hdr]
  have h4 : y.isEmpty = false := by cases y with
    | nil => cases hy
    | cons => rfl
  rw [h3, h4] at h2
  simpa using h2

end Go.Proofs.Ytfolnccpnncmiaa
