/-
  The document's Value and the program's are the same.
-/
import Derived.Test.YtlbpeknncakfeaaGreatDoorRValue
namespace Go.Proofs.YtlbpeknncakfeaaGreatDoor
open Go.RowKit

theorem rdrop_cons (p : UInt8 → Bool) (x : UInt8) (l : List UInt8) : ((x :: l).reverse.dropWhile p).reverse = if (l.reverse.dropWhile p).reverse = [] then (if p x then [] else [x]) else x :: (l.reverse.dropWhile p).reverse := by
  rw [List.reverse_cons, List.dropWhile_append]
  by_cases h : l.reverse.dropWhile p = []
  · rw [h]
    simp [List.dropWhile_cons]
    split <;> simp
  · simp [h]
theorem trim_comm (p : UInt8 → Bool) : ∀ l : List UInt8, ((l.dropWhile p).reverse.dropWhile p).reverse = ((l.reverse.dropWhile p).reverse).dropWhile p
  | [] => rfl
  | x :: l => by
    by_cases hx : p x = true
    · rw [List.dropWhile_cons, if_pos hx, trim_comm p l, rdrop_cons]
      split
      · next h => rw [h]
      · rw [List.dropWhile_cons, if_pos hx]
    · rw [List.dropWhile_cons, if_neg hx]
      rw [rdrop_cons]
      split
      · simp [hx]
      · rw [List.dropWhile_cons, if_neg hx]
theorem rtrim_eq (s : ByteArray) : rtrim s = trimT s := by
  unfold rtrim trimT Lib.trimS Lib.trimRightS Lib.trimLeftS
  rw [trim_comm]

theorem list_of {l : List UInt8} : (⟨⟨l⟩⟩ : ByteArray).size = l.length := rfl
theorem ext1 (b : UInt8) (l : List UInt8) : (ByteArray.extract ⟨⟨b :: l⟩⟩ 1 (ByteArray.size ⟨⟨b :: l⟩⟩)) = ⟨⟨l⟩⟩ := by
  have e : (ByteArray.extract ⟨⟨b :: l⟩⟩ 1 (ByteArray.size ⟨⟨b :: l⟩⟩)).data = ⟨l⟩ := by
    rw [ByteArray.data_extract]
    show ((⟨b :: l⟩ : Array UInt8).extract 1 (b :: l).length) = ⟨l⟩
    simp
  have : ∀ x y : ByteArray, x.data = y.data → x = y := fun x y h => by cases x; cases y; cases h; rfl
  exact this _ _ e
theorem cutP_cons (c b : UInt8) (l : List UInt8) : cutP c ⟨⟨b :: l⟩⟩ = if b = c then ⟨⟨l⟩⟩ else ⟨⟨b :: l⟩⟩ := by
  unfold cutP Lib.trimPrefix Lib.hasPrefix
  by_cases h : b = c
  · subst h
    simp [List.isPrefixOf]
  · have h' : ¬ c = b := fun e => h e.symm
    simp [List.isPrefixOf, h, h']

theorem toNat_eq {b : UInt8} {n : Nat} (hn : n < 256) : ((b.toNat : Int) = (n : Int)) ↔ b = UInt8.ofNat n := by
  constructor
  · intro h
    have h' : b.toNat = n := by omega
    rw [← h']
    simp
  · intro h
    rw [h]
    simp
    omega
theorem sbb_cons (b : UInt8) (l : List UInt8) : sbb ⟨⟨b :: l⟩⟩ 0 = (b.toNat : Int) := rfl
theorem ext2 (a b : UInt8) (l : List UInt8) : (ByteArray.extract ⟨⟨a :: b :: l⟩⟩ 2 (ByteArray.size ⟨⟨a :: b :: l⟩⟩)) = ⟨⟨l⟩⟩ := by
  have e : (ByteArray.extract ⟨⟨a :: b :: l⟩⟩ 2 (ByteArray.size ⟨⟨a :: b :: l⟩⟩)).data = ⟨l⟩ := by
    rw [ByteArray.data_extract]
    show ((⟨a :: b :: l⟩ : Array UInt8).extract 2 (a :: b :: l).length) = ⟨l⟩
    simp
  have : ∀ x y : ByteArray, x.data = y.data → x = y := fun x y h => by cases x; cases y; cases h; rfl
  exact this _ _ e
theorem pu8_zero (l : List UInt8) (h : l ≠ []) : puS 8 ⟨⟨48 :: l⟩⟩ = puS 8 ⟨⟨l⟩⟩ := by
  have h1 : (⟨⟨48 :: l⟩⟩ : ByteArray).size ≠ 0 := by show (48 :: l).length ≠ 0; simp
  have h2 : (⟨⟨l⟩⟩ : ByteArray).size ≠ 0 := by show l.length ≠ 0; simpa using h
  unfold puS
  rw [if_neg h1, if_neg h2]
  show puF 8 (48 :: bsL ⟨⟨l⟩⟩) 0 = _
  rw [puF, if_pos (by decide)]
  rfl
theorem numW_two (a b : UInt8) (l : List UInt8) : numW ⟨⟨a :: b :: l⟩⟩ = if a = 48 then (if b = 120 ∨ b = 88 then puS 16 ⟨⟨l⟩⟩ else puS 8 ⟨⟨a :: b :: l⟩⟩) else puS 10 ⟨⟨a :: b :: l⟩⟩ := by
  unfold numW Lib.hasPrefix
  rw [ext2]
  by_cases ha : a = 48
  · subst ha
    by_cases hb : b = 120
    · subst hb; simp [List.isPrefixOf]
    · by_cases hb2 : b = 88
      · subst hb2; simp [List.isPrefixOf]
      · have h1 : ¬ 120 = b := fun e => hb e.symm
        have h2 : ¬ 88 = b := fun e => hb2 e.symm
        simp [List.isPrefixOf, hb, hb2, h1, h2]
  · have h1 : ¬ 48 = a := fun e => ha e.symm
    simp [List.isPrefixOf, ha, h1]
theorem rnumW_two (a b : UInt8) (l : List UInt8) : rnumW ⟨⟨a :: b :: l⟩⟩ = if a = 48 then (if l ≠ [] ∧ (b = 120 ∨ b = 88) then rpuS 16 ⟨⟨l⟩⟩ else rpuS 8 ⟨⟨b :: l⟩⟩) else rpuS 10 ⟨⟨a :: b :: l⟩⟩ := by
  unfold rnumW
  rw [ext1, ext1, sbb_cons, sbb_cons]
  have e1 : (1 < (⟨⟨a :: b :: l⟩⟩ : ByteArray).size ∧ (a.toNat : Int) = 48) ↔ a = 48 := by
    constructor
    · intro h; exact (toNat_eq (n := 48) (by omega)).1 h.2
    · intro h; exact ⟨by show 1 < (a :: b :: l).length; simp, (toNat_eq (n := 48) (by omega)).2 h⟩
  have e2 : (1 < (⟨⟨b :: l⟩⟩ : ByteArray).size ∧ ((b.toNat : Int) = 120 ∨ (b.toNat : Int) = 88)) ↔ (l ≠ [] ∧ (b = 120 ∨ b = 88)) := by
    have e3 : 1 < (⟨⟨b :: l⟩⟩ : ByteArray).size ↔ l ≠ [] := by
      show 1 < (b :: l).length ↔ _
      cases l <;> simp
    rw [e3]
    exact and_congr_right fun _ => or_congr (toNat_eq (n := 120) (by omega)) (toNat_eq (n := 88) (by omega))
  simp only [e1, e2]
theorem rnumW_eq (t : ByteArray) : rnumW t = atMost 9223372036854775808 (numW t) := by
  obtain ⟨⟨l⟩⟩ := t
  match l with
  | [] => rfl
  | [a] =>
    have h1 : rnumW ⟨⟨[a]⟩⟩ = rpuS 10 ⟨⟨[a]⟩⟩ := by unfold rnumW; rw [if_neg (fun h => absurd h.1 (show ¬ 1 < ([a] : List UInt8).length by simp))]
    by_cases ha : a = 48
    · subst ha; rfl
    · have h2 : numW ⟨⟨[a]⟩⟩ = puS 10 ⟨⟨[a]⟩⟩ := by
        have h3 : ¬ 48 = a := fun e => ha e.symm
        unfold numW Lib.hasPrefix
        simp [List.isPrefixOf, h3]
      rw [h1, h2]
      exact rpuS_eq (by omega) (by omega) _
  | a :: b :: l =>
    rw [rnumW_two, numW_two]
    by_cases ha : a = 48
    · subst ha
      rw [if_pos rfl, if_pos rfl]
      by_cases hb : b = 120 ∨ b = 88
      · rw [if_pos hb]
        by_cases hl : l = []
        · subst hl
          rw [if_neg (fun h => h.1 rfl)]
          rcases hb with rfl | rfl <;> rfl
        · rw [if_pos ⟨hl, hb⟩]
          exact rpuS_eq (by omega) (by omega) _
      · rw [if_neg hb, if_neg (fun h => hb h.2), pu8_zero _ (by simp)]
        exact rpuS_eq (by omega) (by omega) _
    · rw [if_neg ha, if_neg ha]
      exact rpuS_eq (by omega) (by omega) _

theorem atMost_atMost (r : Option Int) : atMost 9223372036854775807 (atMost 9223372036854775808 r) = atMost 9223372036854775807 r := by
  cases r with
  | none => rfl
  | some n =>
    by_cases h : n ≤ 9223372036854775808
    · simp [atMost, h]
    · have h2 : ¬ n ≤ 9223372036854775807 := by omega
      simp [atMost, h, h2]
theorem valS_eq (s : ByteArray) : rvalS s = valS s := by
  unfold rvalS valS
  rw [rtrim_eq]
  obtain ⟨t, ht⟩ : ∃ t, t = trimT s := ⟨_, rfl⟩
  rw [← ht]
  clear ht
  by_cases h0 : t.size = 0
  · rw [if_pos h0, if_pos h0]
  · rw [if_neg h0, if_neg h0]
    obtain ⟨⟨l⟩⟩ := t
    match l with
    | [] => exact absurd rfl h0
    | b :: l =>
      rw [sbb_cons, ext1, cutP_cons, cutP_cons, rnumW_eq, rnumW_eq]
      have e1 : ((b.toNat : Int) = 45) ↔ b = 45 := toNat_eq (n := 45) (by omega)
      have e2 : ((b.toNat : Int) = 43) ↔ b = 43 := toNat_eq (n := 43) (by omega)
      simp only [e1, e2]
      by_cases h45 : b = 45
      · subst h45
        simp [Lib.hasPrefix, List.isPrefixOf]
      · have h45' : ¬ 45 = b := fun e => h45 e.symm
        have hp : Lib.hasPrefix (b :: l) [45] = false := by simp [Lib.hasPrefix, List.isPrefixOf, h45']
        rw [if_neg h45]
        show _ = (if Lib.hasPrefix (b :: l) [45] = true then _ else _)
        rw [hp]
        simp only [Bool.false_eq_true, if_false]
        by_cases h43 : b = 43
        · rw [if_pos h43, if_pos h43, atMost_atMost]
        · rw [if_neg h43, if_neg h43, atMost_atMost]

end Go.Proofs.YtlbpeknncakfeaaGreatDoor
