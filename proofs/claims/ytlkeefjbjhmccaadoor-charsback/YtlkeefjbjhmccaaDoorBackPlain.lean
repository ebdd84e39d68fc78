/-
  Plain: the number of a number's text is the number.
-/
import Derived.Test.YtlkeefjbjhmccaaDoorNum
import Derived.Test.YtlkeefjbjhmccaaDoorTextPlain
namespace Go.Proofs.YtlkeefjbjhmccaaDoor

/-- What digits are worth behind n. -/
def worth : Int → List UInt8 → Int
  | n, [] => n
  | n, c :: l => worth (10 * n + ((c.toNat : Int) - 48)) l
def AllDig (l : List UInt8) : Prop := ∀ c ∈ l, digB (c.toNat : Int) = true

theorem worth_ge : ∀ (l : List UInt8) (n : Int), 0 ≤ n → AllDig l → n ≤ worth n l
  | [], _, _, _ => Int.le_refl _
  | c :: l, n, hn, h => by
    have hc := dig_bounds (h c (by simp))
    have := worth_ge l (10 * n + ((c.toNat : Int) - 48)) (by omega) (fun d hd => h d (by simp [hd]))
    rw [worth]; omega
theorem worth_snoc : ∀ (l : List UInt8) (n : Int) (c : UInt8), worth n (l ++ [c]) = 10 * worth n l + ((c.toNat : Int) - 48)
  | [], _, _ => rfl
  | d :: l, n, c => by rw [List.cons_append, worth, worth, worth_snoc l]
theorem numLoop_worth (most : Int) : ∀ (l : List UInt8) (n : Int), 0 ≤ n → n ≤ most → AllDig l → numLoop most n l = if worth n l ≤ most then some (worth n l) else none
  | [], n, _, h, _ => by rw [numLoop, worth, if_pos h]
  | c :: l, n, hn, h, hd => by
    have hc := dig_bounds (hd c (by simp))
    have hl : AllDig l := fun d hd' => hd d (by simp [hd'])
    rw [numLoop, worth]
    by_cases ho : most < 10 * n + ((c.toNat : Int) - 48)
    · have := worth_ge l (10 * n + ((c.toNat : Int) - 48)) (by omega) hl
      rw [if_pos (by omega), if_neg (by omega)]
    · rw [if_neg (by omega), numLoop_worth most l _ (by omega) (by omega) hl]

theorem u8_dig (a : Nat) (h : a < 10) : ((UInt8.ofNat (48 + a)).toNat : Int) = 48 + a := by
  have : (UInt8.ofNat (48 + a)).toNat = 48 + a := by
    rw [UInt8.toNat_ofNat']; omega
  omega
theorem worth_dec : ∀ (a : Nat), worth 0 (Lib.decDigits a) = a ∧ AllDig (Lib.decDigits a) := by
  intro a
  induction a using Nat.strongRecOn with
  | ind a ih =>
    rw [Lib.decDigits]
    by_cases h : a < 10
    · rw [dif_pos h]
      have e := u8_dig a h
      refine ⟨?_, fun c hc => ?_⟩
      · simp only [worth]; omega
      · simp at hc; subst hc; unfold digB; simp; omega
    · rw [dif_neg h]
      obtain ⟨i1, i2⟩ := ih (a / 10) (by omega)
      have e := u8_dig (a % 10) (by omega)
      refine ⟨?_, fun c hc => ?_⟩
      · rw [worth_snoc, i1]; omega
      · rcases List.mem_append.1 hc with hc | hc
        · exact i2 c hc
        · simp at hc; subst hc; unfold digB; simp; omega
theorem dec_len (a : Nat) (h : a < 10 ^ 19) : 0 < (Lib.decDigits a).length ∧ (Lib.decDigits a).length ≤ 19 := by
  by_cases h0 : a = 0
  · subst h0
    rw [Lib.decDigits]; decide
  · rw [rd_decDigits a h0]
    have := rd_len 19 a h
    have e := rd_step h0
    constructor
    · rw [e]; simp
    · simpa using this

theorem spanN_dig {l : List UInt8} (h : AllDig l) : spanN digB l = l.length :=
  spanN_all digB l (fun _ hj _ => h _ (List.getElem_mem hj))

theorem itoa_size (n : Int) (h0 : -9223372036854775808 ≤ n) (h1 : n ≤ 9223372036854775807) : (⟨(Lib.itoa n).toArray⟩ : ByteArray).size ≤ 2000 := by
  show (Lib.itoa n).toArray.size ≤ 2000
  unfold Lib.itoa
  split
  · have := dec_len n.natAbs (by omega)
    simp; omega
  · have := dec_len n.toNat (by omega)
    simp; omega
theorem back_neg (n most : Int) (h : n < 0) : numberE ⟨(Lib.itoa n).toArray⟩ most = 10 := by
  unfold numberE
  refine if_pos (.inr ?_)
  show spanN digB (Lib.itoa n) < (Lib.itoa n).toArray.size
  unfold Lib.itoa
  rw [if_pos h, spanN_cons, if_neg (by decide)]
  simp
theorem back_pos (n most : Int) (h : 0 ≤ n) (h1 : n ≤ 9223372036854775807) (hm : 0 ≤ most) : numberV ⟨(Lib.itoa n).toArray⟩ most = (if n ≤ most then n else 0) ∧ numberE ⟨(Lib.itoa n).toArray⟩ most = (if n ≤ most then 0 else 3) := by
  have hi : Lib.itoa n = Lib.decDigits n.toNat := by unfold Lib.itoa; rw [if_neg (by omega)]
  obtain ⟨w1, w2⟩ := worth_dec n.toNat
  have hl := dec_len n.toNat (by omega)
  have hn : ¬ notNum ⟨(Lib.itoa n).toArray⟩ := by
    rintro (e | e)
    · have e' : (Lib.itoa n).toArray.size = 0 := e
      rw [hi] at e'; simp at e'; rw [e'] at hl; simp at hl
    · have e' : spanN digB (Lib.itoa n) < (Lib.itoa n).toArray.size := e
      rw [hi, spanN_dig w2] at e'
      simp at e'
  have hL : numLoop most 0 (⟨(Lib.itoa n).toArray⟩ : ByteArray).data.toList = if n ≤ most then some n else none := by
    show numLoop most 0 (Lib.itoa n) = _
    rw [hi, numLoop_worth most _ 0 (by omega) hm w2, w1]
    have : ((n.toNat : Nat) : Int) = n := by omega
    rw [this]
  unfold numberV numberE
  rw [if_neg hn, if_neg hn, hL]
  by_cases hle : n ≤ most
  · rw [if_pos hle, if_pos hle, if_pos hle]; exact ⟨rfl, rfl⟩
  · rw [if_neg hle, if_neg hle, if_neg hle]; exact ⟨rfl, rfl⟩

end Go.Proofs.YtlkeefjbjhmccaaDoor
