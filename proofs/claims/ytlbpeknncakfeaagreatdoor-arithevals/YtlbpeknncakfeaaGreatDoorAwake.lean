/-
  The chapter's examples ('awake'): it answers true and writes nothing that was there.
-/
import Derived.Test.YtlbpeknncakfeaaGreatDoorEval
namespace Go.Proofs.YtlbpeknncakfeaaGreatDoor
open Go.RowKit Go.Maps

def x5 : List (List UInt8 × List UInt8) := [([120], [53])]
theorem a1 : evalL [] [49, 32, 43, 32, 50, 32, 42, 32, 51] = .ok (7, []) := by kernel_rfl
theorem a2 : evalL x5 [121, 32, 61, 32, 120, 32, 60, 60, 32, 49] = .ok (10, [([121], [49, 48])]) := by kernel_rfl
theorem a3 : evalL [] [48, 32, 38, 38, 32, 49, 32, 47, 32, 48] = .ok (0, []) := by kernel_rfl
theorem a4 : evalL [] [49, 32, 47, 32, 48] = .error 13 := by kernel_rfl
theorem a5 : evalL x5 [120, 32, 62, 32, 51, 32, 63, 32, 120, 32, 58, 32, 45, 120] = .ok (5, []) := by kernel_rfl

theorem ev1 (w : World) (he : Env w) : Calls Tryz.prog 13 #[.string ⟨#[49, 32, 43, 32, 50, 32, 42, 32, 51]⟩, .slice none 0 0] w fun e w' => (∃ a cap, e = .returned (.tuple #[.int .i64 7, .slice a 0 cap, .int .i64 0])) ∧ Below w.heap.size w w' := by
  refine (eval_any [49, 32, 43, 32, 50, 32, 42, 32, 51] [] (.slice none 0 0) 0 w (PRow.nil _ _) (by omega) (by decide) (fun p hp => by cases hp) he).mono ?_
  rw [a1]
  rintro e w' ⟨⟨_, _, sv, rfl, a, cap, rfl, _⟩, hb⟩
  exact ⟨⟨a, cap, rfl⟩, hb⟩
theorem ev3 (w : World) (he : Env w) : Calls Tryz.prog 13 #[.string ⟨#[48, 32, 38, 38, 32, 49, 32, 47, 32, 48]⟩, .slice none 0 0] w fun e w' => (∃ a cap, e = .returned (.tuple #[.int .i64 0, .slice a 0 cap, .int .i64 0])) ∧ Below w.heap.size w w' := by
  refine (eval_any [48, 32, 38, 38, 32, 49, 32, 47, 32, 48] [] (.slice none 0 0) 0 w (PRow.nil _ _) (by omega) (by decide) (fun p hp => by cases hp) he).mono ?_
  rw [a3]
  rintro e w' ⟨⟨_, _, sv, rfl, a, cap, rfl, _⟩, hb⟩
  exact ⟨⟨a, cap, rfl⟩, hb⟩
theorem ev4 (w : World) (he : Env w) : Calls Tryz.prog 13 #[.string ⟨#[49, 32, 47, 32, 48]⟩, .slice none 0 0] w fun e w' => e = .returned (.tuple #[.int .i64 0, .slice none 0 0, .int .i64 13]) ∧ Below w.heap.size w w' := by
  refine (eval_any [49, 32, 47, 32, 48] [] (.slice none 0 0) 0 w (PRow.nil _ _) (by omega) (by decide) (fun p hp => by cases hp) he).mono ?_
  rw [a4]
  rintro e w' ⟨⟨rfl, _⟩, hb⟩
  exact ⟨rfl, hb⟩
theorem x5_len : ∀ p ∈ x5, p.2.length ≤ 100000 := by decide
theorem ev2 (n : Nat) (va : Value) (w : World) (he : Env w) (hv : PRow n w va x5) (hn : n ≤ w.heap.size) : Calls Tryz.prog 13 #[.string ⟨#[121, 32, 61, 32, 120, 32, 60, 60, 32, 49]⟩, va] w fun e w' => (∃ sv, e = .returned (.tuple #[.int .i64 10, sv, .int .i64 0]) ∧ PRow w'.heap.size w' sv [([121], [49, 48])]) ∧ Below w.heap.size w w' := by
  refine (eval_any [121, 32, 61, 32, 120, 32, 60, 60, 32, 49] x5 va n w hv hn (by decide) x5_len he).mono ?_
  rw [a2]
  rintro e w' ⟨⟨_, _, sv, rfl, hr⟩, hb⟩
  exact ⟨⟨sv, rfl, hr⟩, hb⟩
theorem ev5 (n : Nat) (va : Value) (w : World) (he : Env w) (hv : PRow n w va x5) (hn : n ≤ w.heap.size) : Calls Tryz.prog 13 #[.string ⟨#[120, 32, 62, 32, 51, 32, 63, 32, 120, 32, 58, 32, 45, 120]⟩, va] w fun e w' => (∃ a cap, e = .returned (.tuple #[.int .i64 5, .slice a 0 cap, .int .i64 0])) ∧ Below w.heap.size w w' := by
  refine (eval_any [120, 32, 62, 32, 51, 32, 63, 32, 120, 32, 58, 32, 45, 120] x5 va n w hv hn (by decide) x5_len he).mono ?_
  rw [a5]
  rintro e w' ⟨⟨_, _, sv, rfl, a, cap, rfl, _⟩, hb⟩
  exact ⟨⟨a, cap, rfl⟩, hb⟩

theorem row_new (w : World) : PRow (w.heap.size + 1) (w.alloc (.cells #[.string ⟨#[120]⟩, .string ⟨#[53]⟩] 39)) (.slice (some ⟨w.heap.size, 0, none⟩) 1 1) x5 := by
  refine ⟨_, 1, rfl, by decide, .inr ⟨w.heap.size, 0, rfl, by omega, fun j hj => ?_⟩⟩
  obtain rfl : j = 0 := by simp [x5] at hj; omega
  have hb := Blk.new w 39 #[.string ⟨#[120]⟩, .string ⟨#[53]⟩]
  exact ⟨hb.cell 0 rfl, hb.cell 1 rfl⟩

set_option maxRecDepth 20000 in
set_option maxHeartbeats 8000000 in
theorem awake_any (w : World) (he : Env w) : Calls Tryz.prog 9 #[] w fun e w' => e = .returned (.bool true) ∧ Below w.heap.size w w' := by
  have b0 := (Below.refl w.heap.size w).alloc (Nat.le_refl _) (.cells #[.string ⟨#[120]⟩, .string ⟨#[53]⟩] 39)
  have hr0 := row_new w
  have he0 := he.below b0
  have hz0 : (w.alloc (.cells #[.string ⟨#[120]⟩, .string ⟨#[53]⟩] 39)).heap.size = w.heap.size + 1 := by simp
  obtain ⟨X, hX⟩ : ∃ X, X = w.alloc (.cells #[.string ⟨#[120]⟩, .string ⟨#[53]⟩] 39) := ⟨_, rfl⟩
  rw [← hX] at b0 hr0 he0 hz0
  have B0 := hide b0
  have HR0 := hide hr0
  have HE0 := hide he0
  have HZ0 := hide hz0
  have HX := hide hX
  clear b0 hr0 he0 hz0 hX he
  go_enter Tryz.func9, Tryz.ntmps9
  go_wp2_with fail
  rw [← unhide HX]
  refine (ev1 X (unhide HE0)).mono ?_
  rintro e w1 ⟨⟨a1, cap1, rfl⟩, b1⟩
  have B1 := hide b1
  have HE1 := hide ((unhide HE0).below b1)
  have HR1 := hide ((unhide HR0).below b1 (by rw [unhide HZ0]; exact Nat.le_refl _))
  have HS1 := hide (show w.heap.size + 1 ≤ w1.heap.size by have := b1.size; have := unhide HZ0; omega)
  clear b1
  go_wp2_with fail
  refine (ev2 (w.heap.size + 1) _ w1 (unhide HE1) (unhide HR1) (unhide HS1)).mono ?_
  rintro e w2 ⟨⟨sv, rfl, hsv⟩, b2⟩
  have B2 := hide b2
  have HE2 := hide ((unhide HE1).below b2)
  have HR2 := hide ((unhide HR1).below b2 (unhide HS1))
  have HS2 := hide (show w.heap.size + 1 ≤ w2.heap.size by have := b2.size; have := unhide HS1; omega)
  have HSV := hide hsv
  clear b2 hsv
  go_wp2_with fail
  refine (ev3 w2 (unhide HE2)).mono ?_
  rintro e w3 ⟨⟨a3, cap3, rfl⟩, b3⟩
  have B3 := hide b3
  have HE3 := hide ((unhide HE2).below b3)
  have HR3 := hide ((unhide HR2).below b3 (unhide HS2))
  have HS3 := hide (show w.heap.size + 1 ≤ w3.heap.size by have := b3.size; have := unhide HS2; omega)
  have HSV3 := hide ((unhide HSV).below b3 (Nat.le_refl _))
  clear b3
  go_wp2_with fail
  refine (ev4 w3 (unhide HE3)).mono ?_
  rintro e w4 ⟨rfl, b4⟩
  have B4 := hide b4
  have HE4 := hide ((unhide HE3).below b4)
  have HR4 := hide ((unhide HR3).below b4 (unhide HS3))
  have HS4 := hide (show w.heap.size + 1 ≤ w4.heap.size by have := b4.size; have := unhide HS3; omega)
  have HSV4 := hide ((unhide HSV3).below b4 (unhide B3).size)
  clear b4
  go_wp2_with fail
  refine (ev5 (w.heap.size + 1) _ w4 (unhide HE4) (unhide HR4) (unhide HS4)).mono ?_
  rintro e w5 ⟨⟨a5, cap5, rfl⟩, b5⟩
  have B5 := hide b5
  obtain ⟨sa, sc, rfl, _, hsr⟩ := (unhide HSV4).below b5 (Nat.le_trans (unhide B3).size (unhide B4).size)
  rcases hsr with h | ⟨b, o, rfl, _, hc⟩
  · cases h
  · have q0 : w5.cell? ⟨b, o, none⟩ = some (.string ⟨#[121]⟩) := (hc 0 (by simp)).1
    have q1 : w5.cell? ⟨b, o + 1, none⟩ = some (.string ⟨#[49, 48]⟩) := (hc 0 (by simp)).2
    clear hc b5
    go_wp2
    go_ret
    have s1 := (unhide B1).size
    have s2 := (unhide B2).size
    have s3 := (unhide B3).size
    have s4 := (unhide B4).size
    have s0 := (unhide B0).size
    refine ⟨rfl, ?_⟩
    exact (unhide B0).trans (((unhide B1).mono s0).trans (((unhide B2).mono (by omega)).trans (((unhide B3).mono (by omega)).trans (((unhide B4).mono (by omega)).trans ((unhide B5).mono (by omega))))))

end Go.Proofs.YtlbpeknncakfeaaGreatDoor
