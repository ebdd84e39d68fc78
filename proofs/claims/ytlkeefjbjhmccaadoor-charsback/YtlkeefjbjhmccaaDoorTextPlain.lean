/-
  Plain facts on the digits of a number, the last one first. Nothing of the program.
-/
import Derived.Lib.ItoaNum
namespace Go.Proofs.YtlkeefjbjhmccaaDoor

/-- The digits of a, the last one first; none of 0. 'f': fuel, at least a. -/
def rdF : Nat → Nat → List UInt8
  | 0, _ => []
  | f + 1, a => if a = 0 then [] else UInt8.ofNat (48 + a % 10) :: rdF f (a / 10)
def rd (a : Nat) : List UInt8 := rdF a a

theorem rdF_more : ∀ (a f g : Nat), a ≤ f → a ≤ g → rdF f a = rdF g a := by
  intro a
  induction a using Nat.strongRecOn with
  | ind a ih =>
    intro f g hf hg
    by_cases h : a = 0
    · subst h
      cases f <;> cases g <;> simp [rdF]
    · obtain ⟨f', rfl⟩ : ∃ f', f = f' + 1 := ⟨f - 1, by omega⟩
      obtain ⟨g', rfl⟩ : ∃ g', g = g' + 1 := ⟨g - 1, by omega⟩
      rw [rdF, rdF, if_neg h, if_neg h, ih (a / 10) (by omega) f' g' (by omega) (by omega)]
theorem rd_zero : rd 0 = [] := rfl
theorem rd_step {a : Nat} (h : a ≠ 0) : rd a = UInt8.ofNat (48 + a % 10) :: rd (a / 10) := by
  unfold rd
  obtain ⟨b, rfl⟩ : ∃ b, a = b + 1 := ⟨a - 1, by omega⟩
  rw [rdF, if_neg h, rdF_more _ b ((b + 1) / 10) (by omega) (Nat.le_refl _)]
theorem rd_len : ∀ (k a : Nat), a < 10 ^ k → (rd a).length ≤ k
  | 0, a, h => by
    have : a = 0 := by simpa using h
    subst this; rw [rd_zero]; simp
  | k + 1, a, h => by
    by_cases h0 : a = 0
    · subst h0; rw [rd_zero]; simp
    · rw [rd_step h0]
      have := rd_len k (a / 10) (by rw [Nat.pow_succ] at h; omega)
      simp; omega
theorem rd_decDigits : ∀ (a : Nat), a ≠ 0 → Lib.decDigits a = (rd a).reverse := by
  intro a
  induction a using Nat.strongRecOn with
  | ind a ih =>
    intro h
    rw [Lib.decDigits, rd_step h]
    by_cases h10 : a < 10
    · have e1 : a % 10 = a := by omega
      have e2 : a / 10 = 0 := by omega
      rw [dif_pos h10, e1, e2, rd_zero]
      rfl
    · rw [dif_neg h10, ih (a / 10) (by omega) (by omega)]
      simp
theorem rd_itoa_pos {n : Int} (h : 0 < n) : Lib.itoa n = (rd n.natAbs).reverse := by
  unfold Lib.itoa
  have e : n.toNat = n.natAbs := by omega
  rw [if_neg (by omega), e, rd_decDigits _ (by omega)]
theorem rd_itoa_neg {n : Int} (h : n < 0) : Lib.itoa n = (rd n.natAbs ++ [45]).reverse := by
  unfold Lib.itoa
  rw [if_pos h, rd_decDigits _ (by omega)]
  simp
theorem itoa_zero : Lib.itoa 0 = [48] := by
  unfold Lib.itoa
  rw [if_neg (by decide), Lib.decDigits]
  rfl

theorem tmod_neg {a : Int} (h : a ≤ 0) : -9 ≤ a.tmod 10 ∧ a.tmod 10 ≤ 0 ∧ (a.tmod 10).natAbs = a.natAbs % 10 := by
  obtain ⟨b, rfl⟩ : ∃ b : Nat, a = -(b : Int) := ⟨a.natAbs, by omega⟩
  rw [Int.neg_tmod, Int.tmod_eq_emod_of_nonneg (by omega)]
  omega
theorem tdiv_neg {a : Int} (h : a ≤ 0) : a ≤ a.tdiv 10 ∧ a.tdiv 10 ≤ 0 ∧ (a.tdiv 10).natAbs = a.natAbs / 10 := by
  obtain ⟨b, rfl⟩ : ∃ b : Nat, a = -(b : Int) := ⟨a.natAbs, by omega⟩
  rw [Int.neg_tdiv, Int.tdiv_eq_ediv_of_nonneg (by omega)]
  omega

end Go.Proofs.YtlkeefjbjhmccaaDoor
