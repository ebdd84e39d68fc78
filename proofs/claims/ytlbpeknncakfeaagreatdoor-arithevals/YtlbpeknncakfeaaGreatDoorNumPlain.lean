/-
  The document's numbers and the program's are the same, up to 2 to the 63.
-/
import Derived.Test.YtlbpeknncakfeaaGreatDoorRNum
import Derived.Test.YtlbpeknncakfeaaGreatDoorValue
namespace Go.Proofs.YtlbpeknncakfeaaGreatDoor
open Go.RowKit

theorem dg_all : ∀ n : Fin 256, (dgt (n.val : Int) < 16 → rdg (n.val : Int) = dgt (n.val : Int)) ∧ (rdg (n.val : Int) < 16 → dgt (n.val : Int) = rdg (n.val : Int)) := by decide +kernel
theorem dg_same {c : Int} (h0 : 0 ≤ c) (h1 : c ≤ 255) : (dgt c < 16 → rdg c = dgt c) ∧ (rdg c < 16 → dgt c = rdg c) := by
  have h := dg_all ⟨c.toNat, by omega⟩
  have e : ((c.toNat : Nat) : Int) = c := by omega
  simp only [e] at h
  exact h

def BytesL (l : List Int) : Prop := ∀ c ∈ l, 0 ≤ c ∧ c ≤ 255
theorem bsL_bytes (t : ByteArray) : BytesL (bsL t) := by
  intro c hc
  obtain ⟨b, _, rfl⟩ := List.mem_map.1 hc
  have := b.toNat_lt
  omega
theorem puF_le {B : Int} (hB : 1 ≤ B) : ∀ (l : List Int) (u v : Int), 0 ≤ u → puF B l u = some v → u ≤ v
  | [], u, v, hu, h => by simp [puF] at h; omega
  | c :: l, u, v, hu, h => by
    rw [puF] at h
    split at h
    · have hd := dgt_nonneg c
      have hm : u ≤ u * B := by
        have := Int.mul_le_mul_of_nonneg_left hB hu
        omega
      have := puF_le hB l (u * B + dgt c) v (by omega) h
      omega
    · cases h
theorem atMost_above {B u : Int} (hB : 1 ≤ B) (l : List Int) (hu : 9223372036854775808 < u) : atMost 9223372036854775808 (puF B l u) = none := by
  rcases h : puF B l u with _ | v
  · rfl
  · have := puF_le hB l u v (by omega) h
    simp only [atMost]
    rw [if_neg (by omega)]
theorem rpu_eq {B : Int} (hB : 1 ≤ B) (hB2 : B ≤ 16) : ∀ (l : List Int) (u : Int), BytesL l → 0 ≤ u → u ≤ 9223372036854775808 → rpu B l u = atMost 9223372036854775808 (puF B l u)
  | [], u, _, hu, hu2 => by simp [rpu, puF, atMost, hu2]
  | c :: l, u, hl, hu, hu2 => by
    obtain ⟨h0, h1⟩ := hl c (by simp)
    have hs := dg_same h0 h1
    have hl' : BytesL l := fun x hx => hl x (by simp [hx])
    have hd := dgt_nonneg c
    have hmul := Int.mul_nonneg hu (show 0 ≤ B by omega)
    rw [rpu, puF]
    by_cases hr : rdg c < B
    · have e := hs.2 (by omega)
      rw [e]
      by_cases hov : u * B + rdg c ≤ 9223372036854775808
      · rw [if_pos ⟨hr, hov⟩, if_pos ⟨hr, by omega⟩]
        exact rpu_eq hB hB2 l _ hl' (by rw [← e]; omega) hov
      · rw [if_neg (fun h => hov h.2)]
        split
        · exact (atMost_above hB l (by omega)).symm
        · rfl
    · rw [if_neg (fun h => hr h.1), if_neg (fun h => hr (by have := hs.1 (by omega); omega))]
      rfl
theorem rpuS_eq {B : Int} (hB : 1 ≤ B) (hB2 : B ≤ 16) (t : ByteArray) : rpuS B t = atMost 9223372036854775808 (puS B t) := by
  unfold rpuS puS
  split
  · rfl
  · exact rpu_eq hB hB2 _ _ (bsL_bytes t) (by omega) (by omega)

end Go.Proofs.YtlbpeknncakfeaaGreatDoor
