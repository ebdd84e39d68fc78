/-
  FdsEnds: no more is open than the sets' numbers; where all numbers are free, nothing is open.
-/
import Derived.Test.YtemologkibcdoaaGreatDoorFdDo
namespace Go.Proofs.YtemologkibcdoaaGreatDoor
open Go.RowKit Go.Maps

theorem sum_pt (f g : Nat → Nat) : ∀ l : List Nat, (l.map (fun i => f i + g i)).sum = (l.map f).sum + (l.map g).sum
  | [] => rfl
  | a :: l => by
    simp only [List.map_cons, List.sum_cons, sum_pt f g l]
    omega
theorem sum_zero {l : List Nat} {f : Nat → Nat} (h : ∀ i, i ∈ l → f i = 0) : (l.map f).sum = 0 := by
  induction l with
  | nil => rfl
  | cons a l ih =>
    simp only [List.map_cons, List.sum_cons]
    rw [h a (List.mem_cons_self ..), ih (fun i hi => h i (List.mem_cons_of_mem _ hi))]
theorem one_at (o : Option Nat) (n : Nat) : ((List.range n).map (fun i => if decide (o = some i) then 1 else 0)).sum ≤ 1 := by
  induction n with
  | zero => simp
  | succ n ih =>
    rw [List.range_succ, List.map_append, List.sum_append]
    simp only [List.map_cons, List.map_nil, List.sum_cons, List.sum_nil]
    by_cases h : o = some n
    · have h0 : ((List.range n).map (fun i => if decide (o = some i) then 1 else 0)).sum = 0 := sum_zero (fun i hi => by
        have hi := List.mem_range.1 hi
        rw [h, if_neg]
        simp
        omega)
      rw [h0]
      split <;> omega
    · rw [if_neg (by simpa using h)]
      omega
theorem row_sum (n : Nat) : ∀ l : List (Option Nat), ((List.range n).map (fun i => l.countP (fun o => decide (o = some i)))).sum ≤ l.length
  | [] => Nat.le_of_eq (sum_zero (fun i _ => rfl))
  | o :: l => by
    have h := row_sum n l
    have h1 := one_at o n
    have e : ((List.range n).map (fun i => (o :: l).countP (fun o => decide (o = some i)))) = (List.range n).map (fun i => l.countP (fun o => decide (o = some i)) + (if decide (o = some i) then 1 else 0)) := by
      apply List.map_congr_left
      intro i _
      rw [List.countP_cons]
    rw [e, sum_pt, List.length_cons]
    omega
theorem rows_sum (n : Nat) : ∀ st : List (List (Option Nat)), (∀ l, l ∈ st → l.length ≤ 16) → ((List.range n).map (fun i => (st.map (fun l => l.countP (fun o => decide (o = some i)))).sum)).sum ≤ 16 * st.length
  | [], _ => Nat.le_of_eq (sum_zero (fun i _ => rfl))
  | l :: st, h => by
    have h1 := rows_sum n st (fun l hl => h l (List.mem_cons_of_mem _ hl))
    have h2 := row_sum n l
    have h3 := h l (List.mem_cons_self ..)
    simp only [List.map_cons, List.sum_cons, List.length_cons]
    rw [sum_pt]
    omega
theorem open_sum (p : Th → Bool) : ∀ (l : List Th) (g : Nat → Nat), (∀ (i : Nat) (t : Th), l[i]? = some t → p t = true → 1 ≤ g i) → l.countP p ≤ ((List.range l.length).map g).sum
  | [], _, _ => Nat.zero_le _
  | a :: l, g, h => by
    have ih := open_sum p l (fun i => g (i + 1)) (fun i t ht hp => h (i + 1) t (by simpa using ht) hp)
    rw [List.countP_cons, List.length_cons, List.range_succ_eq_map, List.map_cons, List.sum_cons, List.map_map]
    have e : (List.range l.length).map (g ∘ Nat.succ) = (List.range l.length).map (fun i => g (i + 1)) := rfl
    rw [e]
    split
    · rename_i hp
      have := h 0 a rfl hp
      omega
    · omega
/-- No more things are open than there are numbers. -/
theorem open_le {A : AS} {n : Nat} (K : AOk A n) : openA A ≤ 16 * A.st.length := by
  refine Nat.le_trans (open_sum _ A.th (fun i => holdsA A i) (fun i t ht hp => ?_)) (rows_sum A.th.length A.st (fun l hl => ?_))
  · have := K.cnt i t ht
    have hp : 0 < t.many := by simpa using hp
    show 1 ≤ holdsA A i
    omega
  · obtain ⟨k, hk⟩ := List.mem_iff_getElem?.1 hl
    exact Nat.le_of_eq (K.row k l hk).1
/-- Where all numbers are free nothing is held. -/
theorem free_all {A : AS} {n : Nat} (K : AOk A n) (h : ∀ (k : Nat) (l : List (Option Nat)), A.st[k]? = some l → ∀ j : Nat, j < 16 → l[j]? = some none) : ∀ (j : Nat) (t : Th), A.th[j]? = some t → t.many = 0 := fun j t ht => by
  rw [K.cnt j t ht]
  unfold holdsA
  have e : A.st.map (fun l => l.countP (fun o => decide (o = some j))) = A.st.map (fun _ => 0) := by
    apply List.map_congr_left
    intro l hl
    obtain ⟨k, hk⟩ := List.mem_iff_getElem?.1 hl
    rw [List.countP_eq_zero]
    intro o ho
    obtain ⟨i, hi⟩ := List.mem_iff_getElem?.1 ho
    have hl16 := (K.row k l hk).1
    have hi16 : i < 16 := by have := (List.getElem?_eq_some_iff.1 hi).1; omega
    have := h k l hk i hi16
    rw [hi] at this
    injection this with this
    subst this
    simp
  rw [e]
  generalize A.st = st
  induction st with
  | nil => rfl
  | cons a r ih => simpa using ih
theorem open_none {A : AS} (h : ∀ (j : Nat) (t : Th), A.th[j]? = some t → t.many = 0) : openA A = 0 := by
  unfold openA
  rw [List.countP_eq_zero]
  intro t ht
  obtain ⟨j, hj⟩ := List.mem_iff_getElem?.1 ht
  simp [h j t hj]
/-- Which sets have ended. -/
def EndUp (A : AS) (j : Nat) : Prop := ∀ (k : Nat) (l : List (Option Nat)), k < j → A.st[k]? = some l → ∀ i : Nat, i < 16 → l[i]? = some none
theorem drop_other (A : AS) (k : Nat) (fd : Int) {k2 : Nat} (hk : k2 ≠ k) : (dropA A k fd).st[k2]? = A.st[k2]? := by
  have hm : ∀ i mm, (manyA (putA A k fd none) i mm).st[k2]? = A.st[k2]? := fun i mm => by
    rw [(row_many _ i mm).1]
    unfold putA
    exact List.getElem?_set_ne (fun e => hk e.symm)
  unfold dropA
  split
  · rfl
  · split
    · rfl
    · split
      · rw [close_st]
        exact hm _ _
      · exact hm _ _
theorem endTo_other (k : Nat) {k2 : Nat} (hk : k2 ≠ k) : ∀ (ns : List Nat) (A : AS), (enTo A k ns).st[k2]? = A.st[k2]?
  | [], _ => rfl
  | j :: ns, A => (endTo_other k hk ns (dropA A k (j : Int))).trans (drop_other A k (j : Int) hk)
theorem nums_out {l : List (Option Nat)} (hl : l.length = 16) {j : Nat} (hj : j < 16) (h : j ∉ numsL l true) : l[j]? = some none := by
  have e := List.getElem?_eq_getElem (l := l) (i := j) (by omega)
  cases ho : l[j] with
  | none => rw [e, ho]
  | some i =>
    refine absurd ?_ h
    unfold numsL
    refine List.mem_filter.2 ⟨List.mem_range.2 hj, ?_⟩
    rw [e, ho]
    rfl
/-- One more set has ended. -/
theorem EndUp.step {A : AS} {n j : Nat} {l : List (Option Nat)} (h : EndUp A j) (K : AOk A n) (hl : A.st[j]? = some l) (hE : EndS A (enA A j) j l (numsL l true)) : EndUp (enA A j) (j + 1) := fun k l2 hk hl2 i hi => by
  by_cases e : k = j
  · subst e
    obtain ⟨l', h1, h2, h3⟩ := hE.row
    rw [h1] at hl2
    injection hl2 with hl2
    subst hl2
    by_cases hm : i ∈ numsL l true
    · exact h3 i hm
    · rw [h2 i hm]
      exact nums_out (K.row k l hl).1 hi hm
  · have h4 : (enA A j).st[k]? = A.st[k]? := endTo_other j e _ A
    rw [h4] at hl2
    exact h k l2 (by omega) hl2 i hi
theorem numsL_none {l : List (Option Nat)} (h : ∀ i : Nat, i < 16 → l[i]? = some none) : numsL l true = [] := by
  cases e : numsL l true with
  | nil => rfl
  | cons j r =>
    have hm : j ∈ numsL l true := by rw [e]; exact List.mem_cons_self ..
    obtain ⟨h1, i, h2⟩ := nums_mem hm
    rw [h j h1] at h2
    cases h2

end Go.Proofs.YtemologkibcdoaaGreatDoor
