/-
  Plain: the number of a number's text is the number; the argument whose number a text is.
-/
import Derived.Test.YtbcbnoeplapblaaDoorRTxt
namespace Go.Proofs.YtbcbnoeplapblaaDoor
open Go.RowKit


/-- What digits are worth behind n. -/
def worth : Int → List UInt8 → Int
  | n, [] => n
  | n, c :: l => worth (10 * n + ((c.toNat : Int) - 48)) l
def AllDig (l : List UInt8) : Prop := ∀ c ∈ l, digB (c.toNat : Int) = true

theorem worth_ge : ∀ (l : List UInt8) (n : Int), 0 ≤ n → AllDig l → n ≤ worth n l
  | [], _, _, _ => Int.le_refl _
  | c :: l, n, hn, h => by
    have hc := dig_bounds (h c (by simp))
    have := worth_ge l (10 * n + ((c.toNat : Int) - 48)) (by omega) (fun d hd => h d (by simp [hd]))
    rw [worth]; omega
theorem worth_snoc : ∀ (l : List UInt8) (n : Int) (c : UInt8), worth n (l ++ [c]) = 10 * worth n l + ((c.toNat : Int) - 48)
  | [], _, _ => rfl
  | d :: l, n, c => by rw [List.cons_append, worth, worth, worth_snoc l]
theorem numLoop_worth (most : Int) : ∀ (l : List UInt8) (n : Int), 0 ≤ n → n ≤ most → AllDig l → numLoop most n l = if worth n l ≤ most then some (worth n l) else none
  | [], n, _, h, _ => by rw [numLoop, worth, if_pos h]
  | c :: l, n, hn, h, hd => by
    have hc := dig_bounds (hd c (by simp))
    have hl : AllDig l := fun d hd' => hd d (by simp [hd'])
    rw [numLoop, worth]
    by_cases ho : most < 10 * n + ((c.toNat : Int) - 48)
    · have := worth_ge l (10 * n + ((c.toNat : Int) - 48)) (by omega) hl
      rw [if_pos (by omega), if_neg (by omega)]
    · rw [if_neg (by omega), numLoop_worth most l _ (by omega) (by omega) hl]

theorem u8_dig (a : Nat) (h : a < 10) : ((UInt8.ofNat (48 + a)).toNat : Int) = 48 + a := by
  have : (UInt8.ofNat (48 + a)).toNat = 48 + a := by
    rw [UInt8.toNat_ofNat']; omega
  omega
theorem worth_dec : ∀ (a : Nat), worth 0 (Lib.decDigits a) = a ∧ AllDig (Lib.decDigits a) := by
  intro a
  induction a using Nat.strongRecOn with
  | ind a ih =>
    rw [Lib.decDigits]
    by_cases h : a < 10
    · rw [dif_pos h]
      have e := u8_dig a h
      refine ⟨?_, fun c hc => ?_⟩
      · simp only [worth]; omega
      · simp at hc; subst hc; unfold digB; simp; omega
    · rw [dif_neg h]
      obtain ⟨i1, i2⟩ := ih (a / 10) (by omega)
      have e := u8_dig (a % 10) (by omega)
      refine ⟨?_, fun c hc => ?_⟩
      · rw [worth_snoc, i1]; omega
      · rcases List.mem_append.1 hc with hc | hc
        · exact i2 c hc
        · simp at hc; subst hc; unfold digB; simp; omega
theorem dec_len (a : Nat) (h : a < 10 ^ 19) : 0 < (Lib.decDigits a).length ∧ (Lib.decDigits a).length ≤ 19 := by
  by_cases h0 : a = 0
  · subst h0
    rw [Lib.decDigits]; decide
  · rw [rd_decDigits a h0]
    have := rd_len 19 a h
    have e := rd_step h0
    constructor
    · rw [e]; simp
    · simpa using this

theorem spanN_dig {l : List UInt8} (h : AllDig l) : spanN digB l = l.length :=
  spanN_all digB l (fun _ hj _ => h _ (List.getElem_mem hj))

theorem itoa_size (n : Int) (h0 : -9223372036854775808 ≤ n) (h1 : n ≤ 9223372036854775807) : (⟨(Lib.itoa n).toArray⟩ : ByteArray).size ≤ 2000 := by
  show (Lib.itoa n).toArray.size ≤ 2000
  unfold Lib.itoa
  split
  · have := dec_len n.natAbs (by omega)
    simp; omega
  · have := dec_len n.toNat (by omega)
    simp; omega
theorem back_neg (n most : Int) (h : n < 0) : numberE ⟨(Lib.itoa n).toArray⟩ most = 10 := by
  unfold numberE
  refine if_pos (.inr ?_)
  show spanN digB (Lib.itoa n) < (Lib.itoa n).toArray.size
  unfold Lib.itoa
  rw [if_pos h, spanN_cons, if_neg (by decide)]
  simp
theorem back_pos (n most : Int) (h : 0 ≤ n) (h1 : n ≤ 9223372036854775807) (hm : 0 ≤ most) : numberV ⟨(Lib.itoa n).toArray⟩ most = (if n ≤ most then n else 0) ∧ numberE ⟨(Lib.itoa n).toArray⟩ most = (if n ≤ most then 0 else 3) := by
  have hi : Lib.itoa n = Lib.decDigits n.toNat := by unfold Lib.itoa; rw [if_neg (by omega)]
  obtain ⟨w1, w2⟩ := worth_dec n.toNat
  have hl := dec_len n.toNat (by omega)
  have hn : ¬ notNum ⟨(Lib.itoa n).toArray⟩ := by
    rintro (e | e)
    · have e' : (Lib.itoa n).toArray.size = 0 := e
      rw [hi] at e'; simp at e'; rw [e'] at hl; simp at hl
    · have e' : spanN digB (Lib.itoa n) < (Lib.itoa n).toArray.size := e
      rw [hi, spanN_dig w2] at e'
      simp at e'
  have hL : numLoop most 0 (⟨(Lib.itoa n).toArray⟩ : ByteArray).data.toList = if n ≤ most then some n else none := by
    show numLoop most 0 (Lib.itoa n) = _
    rw [hi, numLoop_worth most _ 0 (by omega) hm w2, w1]
    have : ((n.toNat : Nat) : Int) = n := by omega
    rw [this]
  unfold numberV numberE
  rw [if_neg hn, if_neg hn, hL]
  by_cases hle : n ≤ most
  · rw [if_pos hle, if_pos hle, if_pos hle]; exact ⟨rfl, rfl⟩
  · rw [if_neg hle, if_neg hle, if_neg hle]; exact ⟨rfl, rfl⟩


theorem dec_step {a : Nat} (h : ¬ a < 10) : Lib.decDigits a = Lib.decDigits (a / 10) ++ [UInt8.ofNat (48 + a % 10)] := by rw [Lib.decDigits, dif_neg h]
theorem dec_one {a : Nat} (h : a < 10) : Lib.decDigits a = [UInt8.ofNat (48 + a)] := by rw [Lib.decDigits, dif_pos h]
theorem u8_of {c : UInt8} {a : Nat} (h : c.toNat = 48 + a) (ha : a < 10) : UInt8.ofNat (48 + a) = c := by
  apply UInt8.toNat_inj.1
  rw [UInt8.toNat_ofNat', h]
  omega
/-- A number's text begins with no nought. -/
theorem dec_head : ∀ a : Nat, a ≠ 0 → (Lib.decDigits a).head? ≠ some 48 := by
  intro a
  induction a using Nat.strongRecOn with
  | ind a ih =>
    intro h0
    by_cases h : a < 10
    · rw [dec_one h]
      intro e
      simp only [List.head?_cons, Option.some.injEq] at e
      have := u8_dig a h
      rw [e] at this
      have h48 : ((48 : UInt8).toNat : Int) = 48 := by decide
      omega
    · rw [dec_step h]
      have ih := ih (a / 10) (by omega) (by omega)
      cases hd : Lib.decDigits (a / 10) with
      | nil =>
        have := worth_dec (a / 10)
        rw [hd] at this
        have := this.1
        simp only [worth] at this
        omega
      | cons c r =>
        rw [hd] at ih
        simpa using ih
/-- Digits with no nought ahead are their number's text. -/
theorem dec_worth : ∀ (n : Nat) (l : List UInt8), l.length = n → AllDig l → l ≠ [] → l.head? ≠ some 48 → Lib.decDigits (worth 0 l).toNat = l := by
  intro n
  induction n with
  | zero => exact fun l hl _ hne _ => absurd (List.eq_nil_of_length_eq_zero hl) hne
  | succ n ih =>
    intro l hl hd hne h48
    obtain ⟨q, c, rfl⟩ : ∃ q c, l = q ++ [c] := ⟨l.dropLast, l.getLast hne, (List.dropLast_concat_getLast hne).symm⟩
    have hc := dig_bounds (hd c (by simp))
    have hcn : c.toNat = 48 + (c.toNat - 48) := by omega
    cases hq : q with
    | nil =>
      subst hq
      show Lib.decDigits (worth 0 [c]).toNat = [c]
      have e : (worth 0 [c]).toNat = c.toNat - 48 := by
        simp only [worth]
        omega
      rw [e, dec_one (by omega), u8_of hcn (by omega)]
    | cons d r =>
      rw [← hq]
      have hq0 : q ≠ [] := by rw [hq]; simp
      have hqh : q.head? ≠ some 48 := by
        rw [hq] at h48 ⊢
        simpa using h48
      have hqd : AllDig q := fun x hx => hd x (by simp [hx])
      have hi := ih q (by simpa using hl) hqd hq0 hqh
      have hge := worth_ge q 0 (by omega) hqd
      have hpos : (worth 0 q).toNat ≠ 0 := by
        intro e
        rw [e, dec_one (by omega)] at hi
        rw [← hi] at hqh
        exact hqh rfl
      rw [worth_snoc]
      have e1 : (10 * worth 0 q + ((c.toNat : Int) - 48)).toNat = 10 * (worth 0 q).toNat + (c.toNat - 48) := by omega
      rw [e1, dec_step (by omega)]
      have e2 : (10 * (worth 0 q).toNat + (c.toNat - 48)) / 10 = (worth 0 q).toNat := by omega
      have e3 : (10 * (worth 0 q).toNat + (c.toNat - 48)) % 10 = c.toNat - 48 := by omega
      rw [e2, e3, hi, u8_of hcn (by omega)]
theorem itoa_nat (n : Nat) : Lib.itoa (n : Int) = Lib.decDigits n := by
  unfold Lib.itoa
  rw [if_neg (by omega)]
  simp
theorem nmb_hit {s : VSt} {p : List UInt8} {i : Nat} (hi : i < s.args.length) (hl : s.args.length ≤ 1000000) (hp : Lib.itoa ((i : Int) + 1) = p) : nmbS s p = (s.args.getD i [], true) := by
  have e : Lib.itoa ((i : Int) + 1) = Lib.decDigits (i + 1) := itoa_nat (i + 1)
  have h48 : p ≠ [48] := by
    intro h
    have := (worth_dec (i + 1)).1
    rw [← e, hp, h] at this
    simp only [worth] at this
    have h48 : ((48 : UInt8).toNat : Int) = 48 := by decide
    omega
  have hh : p.head? ≠ some 48 := by
    rw [← hp, e]
    exact dec_head _ (by omega)
  have hb := back_pos ((i : Int) + 1) s.args.length (by omega) (by omega) (by omega)
  rw [show (⟨(Lib.itoa ((i : Int) + 1)).toArray⟩ : ByteArray) = BA p by rw [hp]; rfl, if_pos (by omega), if_pos (by omega)] at hb
  unfold nmbS
  rw [if_neg h48, if_neg (by rw [hb.2]; simp [hh]), hb.1]
  have : ((i : Int) + 1 - 1).toNat = i := by omega
  rw [this]
theorem nmb_miss {s : VSt} {p : List UInt8} (h48 : p ≠ [48]) (h : ∀ i : Nat, i < s.args.length → Lib.itoa ((i : Int) + 1) ≠ p) : nmbS s p = ([], false) := by
  unfold nmbS
  rw [if_neg h48]
  by_cases hc : numberE (BA p) s.args.length ≠ 0 ∨ p.head? = some 48
  · rw [if_pos hc]
  · exfalso
    have hE : numberE (BA p) s.args.length = 0 := Classical.byContradiction (fun e => hc (.inl e))
    have hH : p.head? ≠ some 48 := fun e => hc (.inr e)
    obtain ⟨h1, h2, h3⟩ := number_range (by omega) hE hH
    have hN : ¬ notNum (BA p) := by
      intro e
      unfold numberE at hE
      rw [if_pos e] at hE
      cases hE
    have hD : AllDig p := (digits_of hN).2
    have hL := numLoop_worth s.args.length p 0 (by omega) (by omega) hD
    have hV : numberV (BA p) s.args.length = worth 0 p := by
      unfold numberV numberE at *
      rw [if_neg hN] at hE ⊢
      rw [show (BA p).data.toList = p from rfl] at hE ⊢
      rw [hL] at hE ⊢
      by_cases hle : worth 0 p ≤ s.args.length
      · rw [if_pos hle]
        rfl
      · rw [if_neg hle] at hE
        cases hE
    rw [hV] at h1 h2
    have hw := dec_worth p.length p rfl hD h3 hH
    refine h ((worth 0 p).toNat - 1) (by omega) ?_
    have e : (((worth 0 p).toNat - 1 : Nat) : Int) + 1 = (((worth 0 p).toNat : Nat) : Int) := by omega
    rw [e, itoa_nat, hw]

end Go.Proofs.YtbcbnoeplapblaaDoor
