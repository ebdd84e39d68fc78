/-
  ArithBrackets holds: an expression within brackets, and between blanks, is what it is without; no condition beyond the card's own (the listed library variables, tied to the program's text).
-/
import Derived.Test.YtlbpeknncakfeaaGreatDoorOpen
import Derived.Test.YtlbpeknncakfeaaGreatDoorBracket
namespace Go.Proofs.YtlbpeknncakfeaaGreatDoor
open Go.ChangeShapes Go.WideShapes Go.ChangeAt Go.RowKit
open Go.ChangeMaps (open_string)

/-- The three answers of 'Eval'. -/
def evN (r : Except Int (Int × Pairs)) : Int := match r with
  | .ok (n, _) => n
  | .error _ => 0
def evC (r : Except Int (Int × Pairs)) : Int := match r with
  | .ok _ => 0
  | .error c => c
def evP (r : Except Int (Int × Pairs)) : Pairs := match r with
  | .ok (_, l) => l
  | .error _ => []
theorem eval_u (l : List UInt8) (vars : Pairs) (va : Value) (n₀ : Nat) (w : World) (hv : PRow n₀ w va vars) (hn : n₀ ≤ w.heap.size) (hl : l.length ≤ 100000) (hvl : ∀ p ∈ vars, p.2.length ≤ 100000) (he : Env w) :
    Calls Tryz.prog 13 #[.string (BA l), va] w fun e w' => (∃ a cap, e = .returned (.tuple #[.int .i64 (evN (evalL vars l)), .slice a (evP (evalL vars l)).length cap, .int .i64 (evC (evalL vars l))]) ∧ PRow w'.heap.size w' (.slice a (evP (evalL vars l)).length cap) (evP (evalL vars l)) ∧ (evP (evalL vars l)).length ≤ 5000) ∧ Below w.heap.size w w' := by
  refine (eval_any l vars va n₀ w hv hn hl hvl he).mono ?_
  rintro e w' ⟨h, hb⟩
  refine ⟨?_, hb⟩
  cases hq : evalL vars l with
  | error c =>
    rw [hq] at h
    obtain ⟨rfl, _⟩ := h
    exact ⟨none, 0, rfl, PRow.nil _ _, by simp [evP]⟩
  | ok p =>
    obtain ⟨n, sets⟩ := p
    rw [hq] at h
    obtain ⟨_, hsl, sv, rfl, hr⟩ := h
    obtain ⟨a, cap, rfl, _⟩ := id hr
    exact ⟨a, cap, rfl, hr, hsl⟩
theorem askS_err {F : List UInt8 → List UInt8} {s : List UInt8} {σ : St} {c : Int} (h : askS F s σ = .error c) : c = 10 := by
  unfold askS at h
  split at h
  · cases h
  · split at h
    · cases h; rfl
    · cases h
theorem apS_err {r : Except Int Int} {σ : St} {c : Int} (h : apS r σ = .error c) : r = .error c := by
  cases r with
  | error d => cases h; rfl
  | ok n => cases h
theorem evalS_err {F : List UInt8 → List UInt8} {c : Int} : ∀ {x : E} {σ : St}, evalS F x σ = .error c → c = 10 ∨ c = 13
  | .num n, σ, h => by cases h
  | .name s, σ, h => .inl (askS_err h)
  | .sign k x, σ, h => by
    rw [evalS] at h
    split at h
    · next c' hc => cases h; exact evalS_err hc
    · cases h
  | .op o x y, σ, h => by
    rw [evalS] at h
    split at h
    · next c' hc => cases h; exact evalS_err hc
    · split at h
      · exact .inr (applyS_err (apS_err h))
      · split at h
        · next c' hc => cases h; exact evalS_err hc
        · exact .inr (applyS_err (apS_err h))
  | .choice x y z, σ, h => by
    rw [evalS] at h
    split at h
    · next c' hc => cases h; exact evalS_err hc
    · split at h
      · exact evalS_err h
      · exact evalS_err h
  | .set s x, σ, h => by
    rw [evalS] at h
    split at h
    · next c' hc => cases h; exact evalS_err hc
    · cases h
  | .chg s o x, σ, h => by
    rw [evalS] at h
    split at h
    · next c' hc => cases h; exact evalS_err hc
    · split at h
      · next c' hc => cases h; exact .inl (askS_err hc)
      · exact .inr (applyS_err (apS_err h))
theorem evalL_err {vars : Pairs} {l : List UInt8} {c : Int} (hl : l.length ≤ 4096) (h : evalL vars l = .error c) : c = 10 ∨ c = 13 := by
  unfold evalL at h
  rw [if_neg (by omega)] at h
  split at h
  · cases h
  · split at h
    · cases h; exact .inl rfl
    · split at h
      · next hc => cases h; exact evalS_err hc
      · cases h

theorem catB (l : List UInt8) : ((⟨#[32, 40]⟩ : ByteArray) ++ BA l) ++ (⟨#[41, 10]⟩ : ByteArray) = BA (32 :: 40 :: (l ++ [41, 10])) := by
  apply ByteArray.ext
  simp [BA]
theorem catC (l : List UInt8) : ((⟨#[9]⟩ : ByteArray) ++ BA l) ++ (⟨#[32]⟩ : ByteArray) = BA (9 :: (l ++ [32])) := by
  apply ByteArray.ext
  simp [BA]
theorem catD (l : List UInt8) : (⟨#[48]⟩ : ByteArray) ++ BA l = BA (48 :: l) := by
  apply ByteArray.ext
  simp [BA]


/-- What a call of 'Eval' answers, wherever it stands behind w. -/
def Ans (w : World) (s : ByteArray) (v : Value) (n c : Int) (P : Pairs) : Prop := ∀ w', Below w.heap.size w w' → Calls Tryz.prog 13 #[.string s, v] w' fun e w'' =>
  (∃ a cap, e = .returned (.tuple #[.int .i64 n, .slice a P.length cap, .int .i64 c]) ∧ PRow w''.heap.size w'' (.slice a P.length cap) P ∧ P.length ≤ 5000) ∧ Below w'.heap.size w' w''

set_option maxRecDepth 20000 in
set_option maxHeartbeats 16000000 in
theorem walk_err10 (l : List UInt8) (v : Value) (vars : Pairs) (w : World) (he : Env w) (hr : PRow w.heap.size w v vars) (h6 : ¬ 600 < l.length) (hf : fewB vars = true) (nB cB nD cD : Int) (PB PD : Pairs)
    (hA : Ans w (BA l) v 0 10 []) (hB : Ans w (BA (32 :: 40 :: (l ++ [41, 10]))) v nB cB PB) (hC : Ans w (BA (9 :: (l ++ [32]))) v 0 10 []) (hD : Ans w (BA (48 :: l)) (.slice none 0 0) nD cD PD) :
    Calls Tryz.prog 5 #[.string (BA l), v] w fun e w' => e = .returned (.bool true) ∧ Below w.heap.size w w' := by
  have hfew := few_any w.heap.size v vars w hr
  rw [hf] at hfew
  obtain ⟨va, vcap, hvv, _, _⟩ := id hr
  have h6' : ¬ (600 : Int) < (l.length : Int) := by omega
  have o1 : ¬ 9223372036854775807 < 2 + l.length := by omega
  have o2 : ¬ 9223372036854775807 < 2 + l.length + 2 := by omega
  have o3 : ¬ 9223372036854775807 < 1 + l.length := by omega
  have o4 : ¬ 9223372036854775807 < 1 + l.length + 1 := by omega
  have HE := hide he
  have HF := hide hfew
  have HA := hide hA
  have HB := hide hB
  have HC := hide hC
  have HD := hide hD
  subst hvv
  clear he hr hfew hf hA hB hC hD
  go_enter Tryz.func5, Tryz.ntmps5
  go_wp2_with fail
  refine (unhide HF).mono ?_
  rintro e w9 ⟨rfl, hx9⟩
  have hx8 := hx9.symm
  subst hx8
  clear hx9
  go_wp2_with fail
  refine (unhide HA w (Below.refl _ _)).mono ?_
  rintro e w1 ⟨⟨a1, k1, rfl, r1, s1⟩, b1⟩
  have R1 := hide r1
  have B1 := hide b1
  clear r1 b1
  go_wp2_with fail
  rw [catB]
  refine (unhide HB w1 (unhide B1)).mono ?_
  rintro e w2 ⟨⟨a2, k2, rfl, r2, s2⟩, b2⟩
  have R2 := hide r2
  have B2 := hide ((unhide B1).trans (b2.mono (unhide B1).size))
  have R12 := hide ((unhide R1).below b2 (Nat.le_refl _))
  have Z1 := hide b2.size
  clear r2 b2
  go_wp2_with fail
  rw [catC]
  refine (unhide HC w2 (unhide B2)).mono ?_
  rintro e w3 ⟨⟨a3, k3, rfl, r3, s3⟩, b3⟩
  have R3 := hide r3
  have B3 := hide ((unhide B2).trans (b3.mono (unhide B2).size))
  have R13 := hide ((unhide R12).below b3 (unhide Z1))
  have R23 := hide ((unhide R2).below b3 (Nat.le_refl _))
  have Z2 := hide b3.size
  have Z12 := hide (Nat.le_trans (unhide Z1) b3.size)
  clear r3 b3
  go_wp2_with fail
  refine (plain_any _ _ [] w3 (unhide R13) (unhide Z12) s1).mono ?_
  rintro e w4 ⟨v4, rfl, r4, b4⟩
  have R4 := hide r4
  have B4 := hide ((unhide B3).trans (b4.mono (unhide B3).size))
  have R14 := hide ((unhide R13).below b4 (unhide Z12))
  have R24 := hide ((unhide R23).below b4 (unhide Z2))
  have R34 := hide ((unhide R3).below b4 (Nat.le_refl _))
  have Z3 := hide b4.size
  have Z13 := hide (Nat.le_trans (unhide Z12) b4.size)
  have Z23 := hide (Nat.le_trans (unhide Z2) b4.size)
  clear r4 b4
  go_wp2_with fail
  refine (plain_any _ _ [] w4 (unhide R34) (unhide Z3) s1).mono ?_
  rintro e w5 ⟨v5, rfl, r5, b5⟩
  have R5 := hide r5
  have B5 := hide ((unhide B4).trans (b5.mono (unhide B4).size))
  have R15 := hide ((unhide R14).below b5 (unhide Z13))
  have R25 := hide ((unhide R24).below b5 (unhide Z23))
  have R45 := hide ((unhide R4).below b5 (Nat.le_refl _))
  have Z4 := hide b5.size
  have Z14 := hide (Nat.le_trans (unhide Z13) b5.size)
  have Z24 := hide (Nat.le_trans (unhide Z23) b5.size)
  clear r5 b5
  go_wp2_with fail
  refine (same_any _ _ v4 v5 [] w5 (unhide R45) (unhide R5) (unhide Z4) (Nat.le_refl _)).mono ?_
  rintro e w6 ⟨rfl, b6⟩
  have B6 := hide ((unhide B5).trans (b6.mono (unhide B5).size))
  have R16 := hide ((unhide R15).below b6 (unhide Z14))
  have R26 := hide ((unhide R25).below b6 (unhide Z24))
  have Z15 := hide (Nat.le_trans (unhide Z14) b6.size)
  have Z25 := hide (Nat.le_trans (unhide Z24) b6.size)
  clear b6
  go_wp2_with fail
  rw [catD]
  refine (unhide HD w6 (unhide B6)).mono ?_
  rintro e w7 ⟨⟨a7, k7, rfl, r7, s7⟩, b7⟩
  have B7 := hide ((unhide B6).trans (b7.mono (unhide B6).size))
  have R17 := hide ((unhide R16).below b7 (unhide Z15))
  have R27 := hide ((unhide R26).below b7 (unhide Z25))
  have Z16 := hide (Nat.le_trans (unhide Z15) b7.size)
  have Z26 := hide (Nat.le_trans (unhide Z25) b7.size)
  clear r7 b7
  go_wp2_with fail
  refine (awake_any w7 ((unhide HE).below (unhide B7))).mono ?_
  rintro e w10 ⟨rfl, b10⟩
  have B10 := hide ((unhide B7).trans (b10.mono (unhide B7).size))
  clear b10
  go_wp2
  go_ret
  exact ⟨rfl, unhide B10⟩

set_option maxRecDepth 20000 in
set_option maxHeartbeats 16000000 in
theorem walk_err13 (l : List UInt8) (v : Value) (vars : Pairs) (w : World) (he : Env w) (hr : PRow w.heap.size w v vars) (h6 : ¬ 600 < l.length) (hf : fewB vars = true) (nB cB nD cD : Int) (PB PD : Pairs)
    (hA : Ans w (BA l) v 0 13 []) (hB : Ans w (BA (32 :: 40 :: (l ++ [41, 10]))) v nB cB PB) (hC : Ans w (BA (9 :: (l ++ [32]))) v 0 13 []) (hD : Ans w (BA (48 :: l)) (.slice none 0 0) nD cD PD) :
    Calls Tryz.prog 5 #[.string (BA l), v] w fun e w' => e = .returned (.bool true) ∧ Below w.heap.size w w' := by
  have hfew := few_any w.heap.size v vars w hr
  rw [hf] at hfew
  obtain ⟨va, vcap, hvv, _, _⟩ := id hr
  have h6' : ¬ (600 : Int) < (l.length : Int) := by omega
  have o1 : ¬ 9223372036854775807 < 2 + l.length := by omega
  have o2 : ¬ 9223372036854775807 < 2 + l.length + 2 := by omega
  have o3 : ¬ 9223372036854775807 < 1 + l.length := by omega
  have o4 : ¬ 9223372036854775807 < 1 + l.length + 1 := by omega
  have HE := hide he
  have HF := hide hfew
  have HA := hide hA
  have HB := hide hB
  have HC := hide hC
  have HD := hide hD
  subst hvv
  clear he hr hfew hf hA hB hC hD
  go_enter Tryz.func5, Tryz.ntmps5
  go_wp2_with fail
  refine (unhide HF).mono ?_
  rintro e w9 ⟨rfl, hx9⟩
  have hx8 := hx9.symm
  subst hx8
  clear hx9
  go_wp2_with fail
  refine (unhide HA w (Below.refl _ _)).mono ?_
  rintro e w1 ⟨⟨a1, k1, rfl, r1, s1⟩, b1⟩
  have R1 := hide r1
  have B1 := hide b1
  clear r1 b1
  go_wp2_with fail
  rw [catB]
  refine (unhide HB w1 (unhide B1)).mono ?_
  rintro e w2 ⟨⟨a2, k2, rfl, r2, s2⟩, b2⟩
  have R2 := hide r2
  have B2 := hide ((unhide B1).trans (b2.mono (unhide B1).size))
  have R12 := hide ((unhide R1).below b2 (Nat.le_refl _))
  have Z1 := hide b2.size
  clear r2 b2
  go_wp2_with fail
  rw [catC]
  refine (unhide HC w2 (unhide B2)).mono ?_
  rintro e w3 ⟨⟨a3, k3, rfl, r3, s3⟩, b3⟩
  have R3 := hide r3
  have B3 := hide ((unhide B2).trans (b3.mono (unhide B2).size))
  have R13 := hide ((unhide R12).below b3 (unhide Z1))
  have R23 := hide ((unhide R2).below b3 (Nat.le_refl _))
  have Z2 := hide b3.size
  have Z12 := hide (Nat.le_trans (unhide Z1) b3.size)
  clear r3 b3
  go_wp2_with fail
  refine (plain_any _ _ [] w3 (unhide R13) (unhide Z12) s1).mono ?_
  rintro e w4 ⟨v4, rfl, r4, b4⟩
  have R4 := hide r4
  have B4 := hide ((unhide B3).trans (b4.mono (unhide B3).size))
  have R14 := hide ((unhide R13).below b4 (unhide Z12))
  have R24 := hide ((unhide R23).below b4 (unhide Z2))
  have R34 := hide ((unhide R3).below b4 (Nat.le_refl _))
  have Z3 := hide b4.size
  have Z13 := hide (Nat.le_trans (unhide Z12) b4.size)
  have Z23 := hide (Nat.le_trans (unhide Z2) b4.size)
  clear r4 b4
  go_wp2_with fail
  refine (plain_any _ _ [] w4 (unhide R34) (unhide Z3) s1).mono ?_
  rintro e w5 ⟨v5, rfl, r5, b5⟩
  have R5 := hide r5
  have B5 := hide ((unhide B4).trans (b5.mono (unhide B4).size))
  have R15 := hide ((unhide R14).below b5 (unhide Z13))
  have R25 := hide ((unhide R24).below b5 (unhide Z23))
  have R45 := hide ((unhide R4).below b5 (Nat.le_refl _))
  have Z4 := hide b5.size
  have Z14 := hide (Nat.le_trans (unhide Z13) b5.size)
  have Z24 := hide (Nat.le_trans (unhide Z23) b5.size)
  clear r5 b5
  go_wp2_with fail
  refine (same_any _ _ v4 v5 [] w5 (unhide R45) (unhide R5) (unhide Z4) (Nat.le_refl _)).mono ?_
  rintro e w6 ⟨rfl, b6⟩
  have B6 := hide ((unhide B5).trans (b6.mono (unhide B5).size))
  have R16 := hide ((unhide R15).below b6 (unhide Z14))
  have R26 := hide ((unhide R25).below b6 (unhide Z24))
  have Z15 := hide (Nat.le_trans (unhide Z14) b6.size)
  have Z25 := hide (Nat.le_trans (unhide Z24) b6.size)
  clear b6
  go_wp2_with fail
  rw [catD]
  refine (unhide HD w6 (unhide B6)).mono ?_
  rintro e w7 ⟨⟨a7, k7, rfl, r7, s7⟩, b7⟩
  have B7 := hide ((unhide B6).trans (b7.mono (unhide B6).size))
  have R17 := hide ((unhide R16).below b7 (unhide Z15))
  have R27 := hide ((unhide R26).below b7 (unhide Z25))
  have Z16 := hide (Nat.le_trans (unhide Z15) b7.size)
  have Z26 := hide (Nat.le_trans (unhide Z25) b7.size)
  clear r7 b7
  go_wp2_with fail
  refine (awake_any w7 ((unhide HE).below (unhide B7))).mono ?_
  rintro e w10 ⟨rfl, b10⟩
  have B10 := hide ((unhide B7).trans (b10.mono (unhide B7).size))
  clear b10
  go_wp2
  go_ret
  exact ⟨rfl, unhide B10⟩

set_option maxRecDepth 20000 in
set_option maxHeartbeats 16000000 in
theorem walk_blank (l : List UInt8) (v : Value) (vars : Pairs) (w : World) (he : Env w) (hr : PRow w.heap.size w v vars) (h6 : ¬ 600 < l.length) (hf : fewB vars = true)
    (hA : Ans w (BA l) v 0 0 []) (hB : Ans w (BA (32 :: 40 :: (l ++ [41, 10]))) v 0 10 []) (hC : Ans w (BA (9 :: (l ++ [32]))) v 0 0 []) (hD : Ans w (BA (48 :: l)) (.slice none 0 0) 0 0 []) :
    Calls Tryz.prog 5 #[.string (BA l), v] w fun e w' => e = .returned (.bool true) ∧ Below w.heap.size w w' := by
  have hfew := few_any w.heap.size v vars w hr
  rw [hf] at hfew
  obtain ⟨va, vcap, hvv, _, _⟩ := id hr
  have h6' : ¬ (600 : Int) < (l.length : Int) := by omega
  have o1 : ¬ 9223372036854775807 < 2 + l.length := by omega
  have o2 : ¬ 9223372036854775807 < 2 + l.length + 2 := by omega
  have o3 : ¬ 9223372036854775807 < 1 + l.length := by omega
  have o4 : ¬ 9223372036854775807 < 1 + l.length + 1 := by omega
  have HE := hide he
  have HF := hide hfew
  have HA := hide hA
  have HB := hide hB
  have HC := hide hC
  have HD := hide hD
  subst hvv
  clear he hr hfew hf hA hB hC hD
  go_enter Tryz.func5, Tryz.ntmps5
  go_wp2_with fail
  refine (unhide HF).mono ?_
  rintro e w9 ⟨rfl, hx9⟩
  have hx8 := hx9.symm
  subst hx8
  clear hx9
  go_wp2_with fail
  refine (unhide HA w (Below.refl _ _)).mono ?_
  rintro e w1 ⟨⟨a1, k1, rfl, r1, s1⟩, b1⟩
  have R1 := hide r1
  have B1 := hide b1
  clear r1 b1
  go_wp2_with fail
  rw [catB]
  refine (unhide HB w1 (unhide B1)).mono ?_
  rintro e w2 ⟨⟨a2, k2, rfl, r2, s2⟩, b2⟩
  have R2 := hide r2
  have B2 := hide ((unhide B1).trans (b2.mono (unhide B1).size))
  have R12 := hide ((unhide R1).below b2 (Nat.le_refl _))
  have Z1 := hide b2.size
  clear r2 b2
  go_wp2_with fail
  rw [catC]
  refine (unhide HC w2 (unhide B2)).mono ?_
  rintro e w3 ⟨⟨a3, k3, rfl, r3, s3⟩, b3⟩
  have R3 := hide r3
  have B3 := hide ((unhide B2).trans (b3.mono (unhide B2).size))
  have R13 := hide ((unhide R12).below b3 (unhide Z1))
  have R23 := hide ((unhide R2).below b3 (Nat.le_refl _))
  have Z2 := hide b3.size
  have Z12 := hide (Nat.le_trans (unhide Z1) b3.size)
  clear r3 b3
  go_wp2_with fail
  refine (plain_any _ _ [] w3 (unhide R13) (unhide Z12) s1).mono ?_
  rintro e w4 ⟨v4, rfl, r4, b4⟩
  have R4 := hide r4
  have B4 := hide ((unhide B3).trans (b4.mono (unhide B3).size))
  have R14 := hide ((unhide R13).below b4 (unhide Z12))
  have R24 := hide ((unhide R23).below b4 (unhide Z2))
  have R34 := hide ((unhide R3).below b4 (Nat.le_refl _))
  have Z3 := hide b4.size
  have Z13 := hide (Nat.le_trans (unhide Z12) b4.size)
  have Z23 := hide (Nat.le_trans (unhide Z2) b4.size)
  clear r4 b4
  go_wp2_with fail
  refine (plain_any _ _ [] w4 (unhide R34) (unhide Z3) s1).mono ?_
  rintro e w5 ⟨v5, rfl, r5, b5⟩
  have R5 := hide r5
  have B5 := hide ((unhide B4).trans (b5.mono (unhide B4).size))
  have R15 := hide ((unhide R14).below b5 (unhide Z13))
  have R25 := hide ((unhide R24).below b5 (unhide Z23))
  have R45 := hide ((unhide R4).below b5 (Nat.le_refl _))
  have Z4 := hide b5.size
  have Z14 := hide (Nat.le_trans (unhide Z13) b5.size)
  have Z24 := hide (Nat.le_trans (unhide Z23) b5.size)
  clear r5 b5
  go_wp2_with fail
  refine (same_any _ _ v4 v5 [] w5 (unhide R45) (unhide R5) (unhide Z4) (Nat.le_refl _)).mono ?_
  rintro e w6 ⟨rfl, b6⟩
  have B6 := hide ((unhide B5).trans (b6.mono (unhide B5).size))
  have R16 := hide ((unhide R15).below b6 (unhide Z14))
  have R26 := hide ((unhide R25).below b6 (unhide Z24))
  have Z15 := hide (Nat.le_trans (unhide Z14) b6.size)
  have Z25 := hide (Nat.le_trans (unhide Z24) b6.size)
  clear b6
  go_wp2_with fail
  rw [catD]
  refine (unhide HD w6 (unhide B6)).mono ?_
  rintro e w7 ⟨⟨a7, k7, rfl, r7, s7⟩, b7⟩
  have B7 := hide ((unhide B6).trans (b7.mono (unhide B6).size))
  have R17 := hide ((unhide R16).below b7 (unhide Z15))
  have R27 := hide ((unhide R26).below b7 (unhide Z25))
  have Z16 := hide (Nat.le_trans (unhide Z15) b7.size)
  have Z26 := hide (Nat.le_trans (unhide Z25) b7.size)
  clear r7 b7
  go_wp2_with fail
  refine (awake_any w7 ((unhide HE).below (unhide B7))).mono ?_
  rintro e w10 ⟨rfl, b10⟩
  have B10 := hide ((unhide B7).trans (b10.mono (unhide B7).size))
  clear b10
  go_wp2
  go_ret
  exact ⟨rfl, unhide B10⟩

set_option maxRecDepth 20000 in
set_option maxHeartbeats 16000000 in
theorem walk_ok (l : List UInt8) (v : Value) (vars : Pairs) (w : World) (he : Env w) (hr : PRow w.heap.size w v vars) (h6 : ¬ 600 < l.length) (hf : fewB vars = true) (n nD cD : Int) (P PD : Pairs)
    (hA : Ans w (BA l) v n 0 P) (hB : Ans w (BA (32 :: 40 :: (l ++ [41, 10]))) v n 0 P) (hC : Ans w (BA (9 :: (l ++ [32]))) v n 0 P) (hD : Ans w (BA (48 :: l)) (.slice none 0 0) nD cD PD) :
    Calls Tryz.prog 5 #[.string (BA l), v] w fun e w' => e = .returned (.bool true) ∧ Below w.heap.size w w' := by
  have hfew := few_any w.heap.size v vars w hr
  rw [hf] at hfew
  obtain ⟨va, vcap, hvv, _, _⟩ := id hr
  have h6' : ¬ (600 : Int) < (l.length : Int) := by omega
  have o1 : ¬ 9223372036854775807 < 2 + l.length := by omega
  have o2 : ¬ 9223372036854775807 < 2 + l.length + 2 := by omega
  have o3 : ¬ 9223372036854775807 < 1 + l.length := by omega
  have o4 : ¬ 9223372036854775807 < 1 + l.length + 1 := by omega
  have HE := hide he
  have HF := hide hfew
  have HA := hide hA
  have HB := hide hB
  have HC := hide hC
  have HD := hide hD
  subst hvv
  clear he hr hfew hf hA hB hC hD
  go_enter Tryz.func5, Tryz.ntmps5
  go_wp2_with fail
  refine (unhide HF).mono ?_
  rintro e w9 ⟨rfl, hx9⟩
  have hx8 := hx9.symm
  subst hx8
  clear hx9
  go_wp2_with fail
  refine (unhide HA w (Below.refl _ _)).mono ?_
  rintro e w1 ⟨⟨a1, k1, rfl, r1, s1⟩, b1⟩
  have R1 := hide r1
  have B1 := hide b1
  clear r1 b1
  go_wp2_with fail
  rw [catB]
  refine (unhide HB w1 (unhide B1)).mono ?_
  rintro e w2 ⟨⟨a2, k2, rfl, r2, s2⟩, b2⟩
  have R2 := hide r2
  have B2 := hide ((unhide B1).trans (b2.mono (unhide B1).size))
  have R12 := hide ((unhide R1).below b2 (Nat.le_refl _))
  have Z1 := hide b2.size
  clear r2 b2
  go_wp2_with fail
  rw [catC]
  refine (unhide HC w2 (unhide B2)).mono ?_
  rintro e w3 ⟨⟨a3, k3, rfl, r3, s3⟩, b3⟩
  have R3 := hide r3
  have B3 := hide ((unhide B2).trans (b3.mono (unhide B2).size))
  have R13 := hide ((unhide R12).below b3 (unhide Z1))
  have R23 := hide ((unhide R2).below b3 (Nat.le_refl _))
  have Z2 := hide b3.size
  have Z12 := hide (Nat.le_trans (unhide Z1) b3.size)
  clear r3 b3
  go_wp2_with fail
  refine (plain_any _ _ P w3 (unhide R13) (unhide Z12) s1).mono ?_
  rintro e w4 ⟨v4, rfl, r4, b4⟩
  have R4 := hide r4
  have B4 := hide ((unhide B3).trans (b4.mono (unhide B3).size))
  have R14 := hide ((unhide R13).below b4 (unhide Z12))
  have R24 := hide ((unhide R23).below b4 (unhide Z2))
  have R34 := hide ((unhide R3).below b4 (Nat.le_refl _))
  have Z3 := hide b4.size
  have Z13 := hide (Nat.le_trans (unhide Z12) b4.size)
  have Z23 := hide (Nat.le_trans (unhide Z2) b4.size)
  clear r4 b4
  go_wp2_with fail
  refine (plain_any _ _ P w4 (unhide R34) (unhide Z3) s1).mono ?_
  rintro e w5 ⟨v5, rfl, r5, b5⟩
  have R5 := hide r5
  have B5 := hide ((unhide B4).trans (b5.mono (unhide B4).size))
  have R15 := hide ((unhide R14).below b5 (unhide Z13))
  have R25 := hide ((unhide R24).below b5 (unhide Z23))
  have R45 := hide ((unhide R4).below b5 (Nat.le_refl _))
  have Z4 := hide b5.size
  have Z14 := hide (Nat.le_trans (unhide Z13) b5.size)
  have Z24 := hide (Nat.le_trans (unhide Z23) b5.size)
  clear r5 b5
  go_wp2_with fail
  refine (same_any _ _ v4 v5 P w5 (unhide R45) (unhide R5) (unhide Z4) (Nat.le_refl _)).mono ?_
  rintro e w6 ⟨rfl, b6⟩
  have B6 := hide ((unhide B5).trans (b6.mono (unhide B5).size))
  have R16 := hide ((unhide R15).below b6 (unhide Z14))
  have R26 := hide ((unhide R25).below b6 (unhide Z24))
  have Z15 := hide (Nat.le_trans (unhide Z14) b6.size)
  have Z25 := hide (Nat.le_trans (unhide Z24) b6.size)
  clear b6
  go_wp2_with fail
  rw [catD]
  refine (unhide HD w6 (unhide B6)).mono ?_
  rintro e w7 ⟨⟨a7, k7, rfl, r7, s7⟩, b7⟩
  have B7 := hide ((unhide B6).trans (b7.mono (unhide B6).size))
  have R17 := hide ((unhide R16).below b7 (unhide Z15))
  have R27 := hide ((unhide R26).below b7 (unhide Z25))
  have Z16 := hide (Nat.le_trans (unhide Z15) b7.size)
  have Z26 := hide (Nat.le_trans (unhide Z25) b7.size)
  clear r7 b7
  go_wp2_with fail
  refine (plain_any _ _ P w7 (unhide R17) (unhide Z16) s1).mono ?_
  rintro e w8 ⟨v8, rfl, r8, b8⟩
  have R8 := hide r8
  have B8 := hide ((unhide B7).trans (b8.mono (unhide B7).size))
  have R28 := hide ((unhide R27).below b8 (unhide Z26))
  have Z27 := hide (Nat.le_trans (unhide Z26) b8.size)
  clear r8 b8
  go_wp2_with fail
  refine (plain_any _ _ P w8 (unhide R28) (unhide Z27) s1).mono ?_
  rintro e w11 ⟨v11, rfl, r11, b11⟩
  have R11 := hide r11
  have B11 := hide ((unhide B8).trans (b11.mono (unhide B8).size))
  have R811 := hide ((unhide R8).below b11 (Nat.le_refl _))
  have Z8 := hide b11.size
  clear r11 b11
  go_wp2_with fail
  refine (same_any _ _ v8 v11 P w11 (unhide R811) (unhide R11) (unhide Z8) (Nat.le_refl _)).mono ?_
  rintro e w12 ⟨rfl, b12⟩
  have B12 := hide ((unhide B11).trans (b12.mono (unhide B11).size))
  clear b12
  go_wp2_with fail
  refine (awake_any w12 ((unhide HE).below (unhide B12))).mono ?_
  rintro e w10 ⟨rfl, b10⟩
  have B10 := hide ((unhide B12).trans (b10.mono (unhide B12).size))
  clear b10
  go_wp2
  go_ret
  exact ⟨rfl, unhide B10⟩

set_option maxRecDepth 20000 in
set_option maxHeartbeats 4000000 in
theorem walk_big (l : List UInt8) (v : Value) (vars : Pairs) (w : World) (he : Env w) (hr : PRow w.heap.size w v vars) (h6 : 600 < l.length) : Calls Tryz.prog 5 #[.string (BA l), v] w fun e w' => e = .returned (.bool true) ∧ Below w.heap.size w w' := by
  obtain ⟨va, vcap, rfl, _, _⟩ := hr
  have h6' : (600 : Int) < (l.length : Int) := by omega
  have HE := hide he
  clear he
  go_enter Tryz.func5, Tryz.ntmps5
  go_wp2_with fail
  refine (awake_any w (unhide HE)).mono ?_
  rintro e w1 ⟨rfl, b1⟩
  go_wp2
  go_ret
  exact ⟨rfl, b1⟩

set_option maxRecDepth 20000 in
set_option maxHeartbeats 4000000 in
theorem walk_many (l : List UInt8) (v : Value) (vars : Pairs) (w : World) (he : Env w) (hr : PRow w.heap.size w v vars) (h6 : ¬ 600 < l.length) (hf : fewB vars = false) : Calls Tryz.prog 5 #[.string (BA l), v] w fun e w' => e = .returned (.bool true) ∧ Below w.heap.size w w' := by
  have hfew := few_any w.heap.size v vars w hr
  rw [hf] at hfew
  obtain ⟨va, vcap, rfl, _, _⟩ := hr
  have h6' : ¬ (600 : Int) < (l.length : Int) := by omega
  have HE := hide he
  have HF := hide hfew
  clear he hfew hf
  go_enter Tryz.func5, Tryz.ntmps5
  go_wp2_with fail
  refine (unhide HF).mono ?_
  rintro e w9 ⟨rfl, hx9⟩
  have hx8 := hx9.symm
  subst hx8
  clear hx9
  go_wp2_with fail
  refine (awake_any w (unhide HE)).mono ?_
  rintro e w1 ⟨rfl, b1⟩
  go_wp2
  go_ret
  exact ⟨rfl, b1⟩

theorem brackets_walk (l : List UInt8) (v : Value) (vars : Pairs) (w : World) (he : Env w) (hr : PRow w.heap.size w v vars) : Calls Tryz.prog 5 #[.string (BA l), v] w fun e w' => e = .returned (.bool true) ∧ Below w.heap.size w w' := by
  by_cases h6 : 600 < l.length
  · exact walk_big l v vars w he hr h6
  · rcases Bool.eq_false_or_eq_true (fewB vars) with hf | hf
    · obtain ⟨hlen, hall⟩ := fewB_spec hf
      have hvl : ∀ p ∈ vars, p.2.length ≤ 100000 := fun p hp => by have := (hall p hp).2; omega
      have U : ∀ s : List UInt8, s.length ≤ 100000 → Ans w (BA s) v (evN (evalL vars s)) (evC (evalL vars s)) (evP (evalL vars s)) := fun s hs w' b => eval_u s vars v w.heap.size w' (hr.below b (Nat.le_refl _)) b.size hs hvl (he.below b)
      have U0 : ∀ s : List UInt8, s.length ≤ 100000 → Ans w (BA s) (.slice none 0 0) (evN (evalL [] s)) (evC (evalL [] s)) (evP (evalL [] s)) := fun s hs w' b => eval_u s [] (.slice none 0 0) 0 w' (PRow.nil _ _) (Nat.zero_le _) hs (fun p hp => by cases hp) (he.below b)
      have hA := U l (by omega)
      have hB := U (32 :: 40 :: (l ++ [41, 10])) (by simp; omega)
      have hC := U (9 :: (l ++ [32])) (by simp; omega)
      have hD := U0 (48 :: l) (by simp; omega)
      rw [eval_gap vars l (by omega)] at hC
      by_cases hb : sk l = []
      · obtain ⟨e1, e2, e3⟩ := eval_empty (vars := vars) (by omega) hb
        rw [e1] at hA hC
        rw [e2] at hB
        rw [e3] at hD
        exact walk_blank l v vars w he hr h6 hf hA hB hC hD
      · rcases hq : evalL vars l with c | ⟨n, P⟩
        · rw [hq] at hA hC
          rcases evalL_err (by omega) hq with rfl | rfl
          · exact walk_err10 l v vars w he hr h6 hf _ _ _ _ _ _ hA hB hC hD
          · exact walk_err13 l v vars w he hr h6 hf _ _ _ _ _ _ hA hB hC hD
        · rw [hq] at hA hC
          rw [eval_in (by omega) hb hq] at hB
          exact walk_ok l v vars w he hr h6 hf n _ _ P _ hA hB hC hD
    · exact walk_many l v vars w he hr h6 hf

set_option maxRecDepth 100000 in
theorem arithBrackets_lifted (os : Os) (started : os.Started) (H : Type) (enc : TypeId × Value → H) :
    ReturnsInHanded {} Tryz.checked os 5 .any (fun w args => (Rows.arithBracketsSpec.pre enc Tryz.prog Tryz.f5 [] false w args ∧ laidMetH Tryz.prog seatLaid w) ∧ sizedMet enc Tryz.prog Tryz.f5 (OpenSpec.ofChange Rows.arithBracketsSpec) false w args)
      (Rows.arithBracketsSpec.post enc Tryz.prog Tryz.f5 false true false false) := by
  refine law_lifted (C := Tryz.checked) (L := seatLaid) (tb := 4) own started (by kernel_rfl) Tryz.func5 laidOut rfl (read_of (by kernel_rfl)) (by kernel_rfl) Tryz.underlying4 ?_
    (ChangeSpec.witness_shaped (enc := enc) (C := Tryz.checked) (os := os) (X := fun w _ => laidMetH Tryz.prog seatLaid w) false (World.laidAll Tryz.prog os seatLaid) #[.string ⟨#[]⟩, .slice none 0 0] 8 (World.laidAll_os _ _ _)
      (World.shaped_of_ZipB (by kernel_rfl) (by kernel_rfl)) (by kernel_rfl) (by kernel_rfl) (by kernel_rfl) (door_met os _)) ?_
  · intro ds hds
    rw [show Tryz.f5.params.toList.length = 2 from by kernel_rfl] at hds
    match ds, hds with
    | [d0, d1], _ => rfl
  · intro W base args ds ps hval0 hA0 hL hsh
    have hval : ∀ (j : Nat) t v, Tryz.f5.params[j]? = some t → args[j]? = some v → Value.okWide Tryz.prog W .any base t v := hval0
    have hA : DataW.TrodAll enc Tryz.prog W 0 (fun _ => true) true Tryz.f5.params.toList args.toList ds ps := hA0
    rw [Tryz.params5] at hA hval
    obtain ⟨v0, v1, d0, d1, p0, p1, rfl, rfl, rfl, h0, h1⟩ := trodAll_two hA
    obtain ⟨s, rfl, rfl, rfl, _⟩ := open_string Tryz.underlying9 (hval 0 9 v0 rfl rfl) h0
    have k1 := okWide_slice Tryz.underlying27 (hval 1 27 v1 rfl rfl)
    obtain ⟨l, hl⟩ := pairs_of k1 h1
    exact brackets_walk s.data.toList v1 l W (env_of hL hsh) hl

theorem arithBrackets_row : Rows.ArithBracketsSaid :=
  OpenClaim.holds_of_wide 5 Tryz.f5 rfl rfl rfl rfl rfl rfl rfl ⟨rfl, rfl, rfl, rfl, rfl⟩ rfl rfl rfl rfl rfl (by kernel_rfl) Tryz.func5 (by kernel_rfl)
    (of_decide_eq_true (by kernel_rfl)) (by unfold Func.isWrapper; first | (rw [if_pos (by decide +kernel)]; kernel_rfl) | (rw [if_neg (by decide +kernel)]; exact ⟨rfl, rfl⟩))
    (fun os started H enc _ => arithBrackets_lifted os started H enc)

theorem arithBrackets_holds : Rows.ArithBracketsCardSaid :=
  Claim7.holds_tied_plain_at .later [] [.data, .data, .data, .data, .sentinel, .sentinel, .pinned] true (true, "a5c63b735f0707980e6a6b49a9b9466cb4e0ad6100d085c50bc295af36e29eb0") true
    arithBrackets_row (fun _ h => by cases h) (by kernel_rfl) (fun _ h => by cases h) arithBrackets_row_tie rfl ⟨rfl, rfl⟩ (by kernel_rfl) rfl
    (fun f fn hf hfn => by
      obtain rfl : f = 5 := Option.some.inj ((show Tryz.prog.funcNamed "conch/conchlaw03.ArithBrackets" = some 5 by kernel_rfl).symm.trans hf) |>.symm
      obtain rfl : fn = Tryz.f5 := (Option.some.inj (Tryz.func5.symm.trans hfn)).symm
      exact ⟨by kernel_rfl, fun j t ht => by
        rw [Tryz.params5] at ht
        have hm : t ∈ [9, 27] := by simpa using Array.mem_of_getElem? ht
        have hall : ([9, 27].all fun u => !Tryz.prog.wantsStandIn u) = true := by kernel_rfl
        exact (show Tryz.prog.wantsStandIn t = false by simpa using List.all_eq_true.1 hall t hm)⟩)
    (by kernel_rfl)
#print axioms arithBrackets_holds

end Go.Proofs.YtlbpeknncakfeaaGreatDoor
