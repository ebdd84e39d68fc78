/-
  A number's text is its number; and what expressions over two such variables are.
-/
import Derived.Test.YtlbpeknncakfeaaGreatDoorEval
namespace Go.Proofs.YtlbpeknncakfeaaGreatDoor
open Go.RowKit Go.Maps

/-- What digits are worth behind n. -/
def worth : Int → List UInt8 → Int
  | n, [] => n
  | n, c :: l => worth (n * 10 + ((c.toNat : Int) - 48)) l
def AllDig (l : List UInt8) : Prop := ∀ c ∈ l, digB (c.toNat : Int) = true
theorem dig_bounds {c : Int} (h : digB c = true) : 48 ≤ c ∧ c ≤ 57 := by
  unfold digB at h
  rw [Bool.and_eq_true] at h
  exact ⟨of_decide_eq_true h.1, of_decide_eq_true h.2⟩
theorem worth_ge : ∀ (l : List UInt8) (n : Int), 0 ≤ n → AllDig l → n ≤ worth n l
  | [], _, _, _ => Int.le_refl _
  | c :: l, n, hn, h => by
    have hc := dig_bounds (h c (by simp))
    have := worth_ge l (n * 10 + ((c.toNat : Int) - 48)) (by omega) (fun d hd => h d (by simp [hd]))
    rw [worth]; omega
theorem worth_snoc : ∀ (l : List UInt8) (n : Int) (c : UInt8), worth n (l ++ [c]) = worth n l * 10 + ((c.toNat : Int) - 48)
  | [], _, _ => rfl
  | d :: l, n, c => by rw [List.cons_append, worth, worth, worth_snoc l]
theorem u8_dig (a : Nat) (h : a < 10) : ((UInt8.ofNat (48 + a)).toNat : Int) = 48 + a := by
  have : (UInt8.ofNat (48 + a)).toNat = 48 + a := by
    rw [UInt8.toNat_ofNat']; omega
  omega
theorem worth_dec : ∀ (a : Nat), worth 0 (Lib.decDigits a) = a ∧ AllDig (Lib.decDigits a) := by
  intro a
  induction a using Nat.strongRecOn with
  | ind a ih =>
    rw [Lib.decDigits]
    by_cases h : a < 10
    · rw [dif_pos h]
      have e := u8_dig a h
      refine ⟨?_, fun c hc => ?_⟩
      · simp only [worth]; omega
      · simp at hc; subst hc; unfold digB; simp; omega
    · rw [dif_neg h]
      obtain ⟨i1, i2⟩ := ih (a / 10) (by omega)
      have e := u8_dig (a % 10) (by omega)
      refine ⟨?_, fun c hc => ?_⟩
      · rw [worth_snoc, i1]; omega
      · rcases List.mem_append.1 hc with hc | hc
        · exact i2 c hc
        · simp at hc; subst hc; unfold digB; simp; omega
theorem dec_head : ∀ (a : Nat), 0 < a → ∃ c l, Lib.decDigits a = c :: l ∧ c ≠ 48 := by
  intro a
  induction a using Nat.strongRecOn with
  | ind a ih =>
    intro h0
    rw [Lib.decDigits]
    by_cases h : a < 10
    · rw [dif_pos h]
      refine ⟨_, [], rfl, fun e => ?_⟩
      have := u8_dig a h
      rw [e] at this
      simp at this
      omega
    · rw [dif_neg h]
      obtain ⟨c, l, e, hc⟩ := ih (a / 10) (by omega) (by omega)
      exact ⟨c, l ++ _, by rw [e]; rfl, hc⟩
theorem puF_worth : ∀ (l : List UInt8) (n : Int), 0 ≤ n → AllDig l → worth n l < 18446744073709551616 → puF 10 (l.map fun b => (b.toNat : Int)) n = some (worth n l)
  | [], n, _, _, _ => rfl
  | c :: l, n, hn, hd, hw => by
    have hc := dig_bounds (hd c (by simp))
    have hl : AllDig l := fun d hd' => hd d (by simp [hd'])
    have hg : dgt (c.toNat : Int) = (c.toNat : Int) - 48 := by unfold dgt; rw [if_pos hc]
    rw [worth] at hw
    have hge := worth_ge l (n * 10 + ((c.toNat : Int) - 48)) (by omega) hl
    rw [List.map_cons, puF, hg, if_pos ⟨by omega, by omega⟩, worth]
    exact puF_worth l _ (by omega) hl hw
theorem numW_48 : numW (BA [48]) = some 0 := by kernel_rfl
theorem atMost_le {m n : Int} (h : n ≤ m) : atMost m (some n) = some n := by
  show (if n ≤ m then some n else none) = some n
  rw [if_pos h]
theorem numW_dec (a : Nat) (h : a ≤ 9223372036854775808) : numW (BA (Lib.decDigits a)) = some (a : Int) := by
  by_cases h0 : a = 0
  · subst h0
    have : Lib.decDigits 0 = [48] := by rw [Lib.decDigits]; rfl
    rw [this]
    exact numW_48
  · obtain ⟨c, l, e, hc⟩ := dec_head a (by omega)
    obtain ⟨w1, w2⟩ := worth_dec a
    have hx : ∀ p : List UInt8, Lib.hasPrefix (BA (Lib.decDigits a)).data.toList (48 :: p) = false := fun p => by
      rw [BA_list, e]
      show ((48 : UInt8) == c && p.isPrefixOf l) = false
      rw [show ((48 : UInt8) == c) = false from beq_false_of_ne (Ne.symm hc)]; rfl
    unfold numW
    rw [hx, hx, hx]
    simp only [Bool.or_self, Bool.false_eq_true, if_false]
    unfold puS
    rw [if_neg (by rw [BA_size, e]; simp)]
    show puF 10 ((Lib.decDigits a).map fun b => (b.toNat : Int)) 0 = _
    rw [puF_worth _ 0 (by omega) w2 (by rw [w1]; omega), w1]

theorem dropWhile_none {α : Type} (p : α → Bool) : ∀ l : List α, (∀ x ∈ l, p x = false) → l.dropWhile p = l
  | [], _ => rfl
  | a :: l, h => by rw [List.dropWhile_cons, if_neg (by rw [h a (by simp)]; simp)]
theorem trim_none (l : List UInt8) (h : ∀ x ∈ l, gaps.contains x = false) : trimT (BA l) = BA l := by
  have : Lib.trimS l gaps = l := by
    unfold Lib.trimS Lib.trimLeftS Lib.trimRightS
    rw [dropWhile_none _ l.reverse (fun x hx => h x (by simpa using hx)), List.reverse_reverse, dropWhile_none _ l h]
  show (⟨(Lib.trimS l gaps).toArray⟩ : ByteArray) = _
  rw [this]
  rfl
theorem dig_gap {c : UInt8} (h : digB (c.toNat : Int) = true) : gaps.contains c = false := by
  have hc := dig_bounds h
  unfold gaps
  have h1 : c ≠ 32 := fun e => by rw [e] at hc; simp at hc
  have h2 : c ≠ 9 := fun e => by rw [e] at hc; simp at hc
  have h3 : c ≠ 10 := fun e => by rw [e] at hc; simp at hc
  simp [h1, h2, h3]
theorem cutP_no {c d : UInt8} {l : List UInt8} (h : d ≠ c) : cutP c (BA (d :: l)) = BA (d :: l) := by
  unfold cutP Lib.trimPrefix
  have : Lib.hasPrefix (BA (d :: l)).data.toList [c] = false := by
    show (c == d && ([] : List UInt8).isPrefixOf l) = false
    rw [show (c == d) = false from beq_false_of_ne (Ne.symm h)]; rfl
  rw [this]
  rfl
/-- The number of a number's text. -/
theorem val_text {n : Int} (hn : I64 n) : valS (BA (textL n)) = some n := by
  obtain ⟨h0, h1⟩ := hn
  unfold textL Lib.itoa
  by_cases hneg : n < 0
  · rw [if_pos hneg]
    obtain ⟨_, w2⟩ := worth_dec n.natAbs
    unfold valS
    rw [trim_none (45 :: Lib.decDigits n.natAbs) (fun x hx => by
      rcases List.mem_cons.1 hx with rfl | hx
      · decide
      · exact dig_gap (w2 x hx))]
    rw [if_neg (by rw [BA_size]; simp), show Lib.hasPrefix (BA (45 :: Lib.decDigits n.natAbs)).data.toList [45] = true by simp [Lib.hasPrefix], if_pos rfl]
    have : cutP 45 (BA (45 :: Lib.decDigits n.natAbs)) = BA (Lib.decDigits n.natAbs) := by
      unfold cutP Lib.trimPrefix
      rw [show Lib.hasPrefix (BA (45 :: Lib.decDigits n.natAbs)).data.toList [45] = true by simp [Lib.hasPrefix], if_pos rfl]
      rfl
    rw [this, numW_dec _ (by omega)]
    rw [atMost_le (by omega)]
    show some (-(n.natAbs : Int)) = some n
    rw [show -(n.natAbs : Int) = n by omega]
  · rw [if_neg hneg]
    obtain ⟨_, w2⟩ := worth_dec n.toNat
    obtain ⟨c, l, e, hc⟩ : ∃ c l, Lib.decDigits n.toNat = c :: l ∧ digB (c.toNat : Int) = true := by
      cases hd : Lib.decDigits n.toNat with
      | nil =>
        rw [Lib.decDigits] at hd
        split at hd
        · cases hd
        · simp at hd
      | cons c l => exact ⟨c, l, rfl, w2 c (by rw [hd]; simp)⟩
    have hb := dig_bounds hc
    have h45 : c ≠ 45 := fun e => by rw [e] at hb; simp at hb
    have h43 : c ≠ 43 := fun e => by rw [e] at hb; simp at hb
    unfold valS
    rw [trim_none (Lib.decDigits n.toNat) (fun x hx => dig_gap (w2 x hx)), e, if_neg (by rw [BA_size]; simp)]
    rw [show Lib.hasPrefix (BA (c :: l)).data.toList [45] = false by
      show ((45 : UInt8) == c && ([] : List UInt8).isPrefixOf l) = false
      rw [show ((45 : UInt8) == c) = false from beq_false_of_ne (Ne.symm h45)]; rfl]
    rw [if_neg (by simp), cutP_no h43, ← e, numW_dec _ (by omega)]
    rw [atMost_le (by omega), show (n.toNat : Int) = n by omega]
theorem text_len {n : Int} (hn : I64 n) : (textL n).length ≤ 100000 := by
  have hd : ∀ (k a : Nat), a < 10 ^ k → (Lib.decDigits a).length ≤ k + 1 := by
    intro k
    induction k with
    | zero => intro a h; rw [Lib.decDigits, dif_pos (by omega)]; simp
    | succ k ih =>
      intro a h
      rw [Lib.decDigits]
      by_cases h10 : a < 10
      · rw [dif_pos h10]; simp
      · rw [dif_neg h10, List.length_append]
        have := ih (a / 10) (by rw [Nat.pow_succ] at h; omega)
        simp
        omega
  obtain ⟨h0, h1⟩ := hn
  unfold textL Lib.itoa
  by_cases hneg : n < 0
  · rw [if_pos hneg]
    have := hd 19 n.natAbs (by have : (10 : Nat) ^ 19 = 10000000000000000000 := by decide
                               omega)
    simp
    omega
  · rw [if_neg hneg]
    have := hd 19 n.toNat (by have : (10 : Nat) ^ 19 = 10000000000000000000 := by decide
                              omega)
    omega

end Go.Proofs.YtlbpeknncakfeaaGreatDoor
