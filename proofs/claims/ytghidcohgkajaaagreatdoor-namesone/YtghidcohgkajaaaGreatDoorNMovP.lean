/-
  NamesMoves, without memory: what is renamed in the root is walked to by its new name.
-/
import Derived.Test.YtghidcohgkajaaaGreatDoorM20
namespace Go.Proofs.YtghidcohgkajaaaGreatDoor

theorem root_isD {s : NS} (H : NInv s) : isD s 1 = true := by
  unfold isD
  exact decide_eq_true H.root
theorem walk_plain {s : NS} (H : NInv s) {p : List UInt8} (hp : ∀ c ∈ p, c ≠ 47) : (placeN s 1 p).2.2 = 0 → (placeN s 1 p).1 = 1 ∧ (placeN s 1 p).2.1 = p ∧ ∀ s', NInv s' → walkN s' 1 p false = if findN s' 1 p = 0 then (0, 23) else (findN s' 1 p, 0) := by
  rw [place_plain hp, if_neg (by rw [root_isD H]; decide)]
  split
  · intro h; exact absurd h (by decide)
  · rename_i h0
    split
    · intro h; exact absurd h (by decide)
    · rename_i h1
      split
      · intro h; exact absurd h (by decide)
      · rename_i h2
        intro _
        refine ⟨rfl, rfl, fun s' H' => ?_⟩
        unfold walkN
        rw [if_pos (root_isD H'), goes_plain hp, if_neg h0, if_neg (by omega), if_neg (by rw [root_isD H']; decide), if_neg (fun e => h1 (.inl e)), if_neg (fun e => h1 (.inr e)), if_neg h2]
        split <;> rfl
theorem ren_ok0 {s : NS} {A B : Int × List UInt8 × Int} {i k : Int} (h : renE s A B i k = 0) : A.2.2 = 0 ∧ B.2.2 = 0 ∧ i ≠ 0 := by
  unfold renE at h
  by_cases h1 : A.2.2 ≠ 0
  · rw [if_pos h1] at h; exact absurd h h1
  · rw [if_neg h1] at h
    by_cases h2 : B.2.2 ≠ 0
    · rw [if_pos h2] at h; exact absurd h h2
    · rw [if_neg h2] at h
      by_cases h3 : i = 0 ∨ namesOf (ndAt s.T B.1) = 0
      · rw [if_pos h3] at h; exact absurd h (by decide)
      · exact ⟨by simpa using h1, by simpa using h2, fun e => h3 (.inl e)⟩
/-- What Rename answers, and what it leaves, in the root. -/
noncomputable def mvE (s : NS) (p q : List UInt8) : Int := renE s (placeN s 1 p) (placeN s 1 q) (findN s (placeN s 1 p).1 (placeN s 1 p).2.1) (findN s (placeN s 1 q).1 (placeN s 1 q).2.1)
noncomputable def mvS (s : NS) (p q : List UInt8) : NS := renS s (placeN s 1 p) (placeN s 1 q) (findN s (placeN s 1 p).1 (placeN s 1 p).2.1) (findN s (placeN s 1 q).1 (placeN s 1 q).2.1)
theorem moves_pure {s : NS} (H : NInv s) {p q : List UInt8} (hp : ∀ c ∈ p, c ≠ 47) (hq : ∀ c ∈ q, c ≠ 47) (h : mvE s p q = 0) : (walkN s 1 p false).2 = 0 ∧ (((walkN s 1 q false).2 = 0 ∧ (walkN s 1 p false).1 = (walkN s 1 q false).1) → mvS s p q = s) ∧
    (¬ ((walkN s 1 q false).2 = 0 ∧ (walkN s 1 p false).1 = (walkN s 1 q false).1) → walkN (mvS s p q) 1 q false = ((walkN s 1 p false).1, 0) ∧ (walkN (mvS s p q) 1 p false).2 = 23) := by
  obtain ⟨h1, h2, h3⟩ := ren_ok0 h
  obtain ⟨a1, a2, a3⟩ := walk_plain H hp h1
  obtain ⟨b1, b2, b3⟩ := walk_plain H hq h2
  have hf := ren_find H h
  have hk : NInv (mvS s p q) := keep_ren H
  have hsame : findN s (placeN s 1 p).1 (placeN s 1 p).2.1 = findN s (placeN s 1 q).1 (placeN s 1 q).2.1 → mvS s p q = s := fun e => by
    unfold mvS renS
    rw [if_neg (fun e2 => e2.2 e)]
  change _ → findN (mvS s p q) (placeN s 1 q).1 (placeN s 1 q).2.1 = _ ∧ findN (mvS s p q) (placeN s 1 p).1 (placeN s 1 p).2.1 = 0 at hf
  rw [a1, a2] at h3
  rw [a1, a2, b1, b2] at hf hsame
  have e1 : walkN s 1 p false = (findN s 1 p, 0) := by rw [a3 s H, if_neg h3]
  have e2 := b3 s H
  have e3 := b3 _ hk
  have e4 := a3 _ hk
  rw [e1]
  refine ⟨rfl, fun e => ?_, fun e => ?_⟩
  · apply hsame
    by_cases h0 : findN s 1 q = 0
    · rw [if_pos h0] at e2
      rw [e2] at e
      exact absurd e.1 (by decide)
    · rw [if_neg h0] at e2
      rw [e2] at e
      exact e.2
  · have hne : findN s 1 p ≠ findN s 1 q := by
      intro e5
      apply e
      rw [e2, if_neg (by rw [← e5]; exact h3)]
      exact ⟨rfl, e5⟩
    obtain ⟨f1, f2⟩ := hf hne
    rw [e3, f1, if_neg h3, e4, if_pos f2]
    exact ⟨rfl, rfl⟩
theorem mv_err {s : NS} {p q : List UInt8} (h : mvE s p q ≠ 0) : mvS s p q = s := ren_err h

end Go.Proofs.YtghidcohgkajaaaGreatDoor
