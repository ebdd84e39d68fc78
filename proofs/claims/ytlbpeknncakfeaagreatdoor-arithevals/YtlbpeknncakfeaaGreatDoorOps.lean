/-
  The contracts of what operators do: the functions of the two tables.
-/
import Derived.Test.YtlbpeknncakfeaaGreatDoorLeaf
namespace Go.Proofs.YtlbpeknncakfeaaGreatDoor
open Go.RowKit


theorem do_or (a b : Int) (w : World) : Calls Tryz.prog 65 #[.int .i64 a, .int .i64 b] w fun e w' => e = .returned (.int .i64 (bits BinOp.or IntKind.i64 a b)) ∧ w' = w := by
  go_enter Tryz.func65, Tryz.ntmps65
  go_wp2
  go_ret
  exact ⟨rfl, rfl⟩

theorem do_xor (a b : Int) (w : World) : Calls Tryz.prog 66 #[.int .i64 a, .int .i64 b] w fun e w' => e = .returned (.int .i64 (bits BinOp.xor IntKind.i64 a b)) ∧ w' = w := by
  go_enter Tryz.func66, Tryz.ntmps66
  go_wp2
  go_ret
  exact ⟨rfl, rfl⟩

theorem do_and (a b : Int) (w : World) : Calls Tryz.prog 67 #[.int .i64 a, .int .i64 b] w fun e w' => e = .returned (.int .i64 (bits BinOp.and IntKind.i64 a b)) ∧ w' = w := by
  go_enter Tryz.func67, Tryz.ntmps67
  go_wp2
  go_ret
  exact ⟨rfl, rfl⟩

theorem do_eq (a b : Int) (w : World) : Calls Tryz.prog 68 #[.int .i64 a, .int .i64 b] w fun e w' => e = .returned (.int .i64 (truthI (a == b))) ∧ w' = w := by
  go_enter Tryz.func68, Tryz.ntmps68
  go_wp2_with fail
  refine (truth_any _ _).mono ?_
  rintro ee x1 ⟨rfl, hx1⟩
  have hx2 := hx1.symm
  subst hx2
  clear hx1
  go_wp2
  go_ret
  exact ⟨rfl, rfl⟩

theorem do_ne (a b : Int) (w : World) : Calls Tryz.prog 69 #[.int .i64 a, .int .i64 b] w fun e w' => e = .returned (.int .i64 (truthI (a != b))) ∧ w' = w := by
  go_enter Tryz.func69, Tryz.ntmps69
  go_wp2_with fail
  refine (truth_any _ _).mono ?_
  rintro ee x1 ⟨rfl, hx1⟩
  have hx2 := hx1.symm
  subst hx2
  clear hx1
  go_wp2
  go_ret
  exact ⟨rfl, rfl⟩

theorem do_lt (a b : Int) (w : World) : Calls Tryz.prog 70 #[.int .i64 a, .int .i64 b] w fun e w' => e = .returned (.int .i64 (truthI (decide (a < b)))) ∧ w' = w := by
  go_enter Tryz.func70, Tryz.ntmps70
  go_wp2_with fail
  refine (truth_any _ _).mono ?_
  rintro ee x1 ⟨rfl, hx1⟩
  have hx2 := hx1.symm
  subst hx2
  clear hx1
  go_wp2
  go_ret
  exact ⟨rfl, rfl⟩

theorem do_le (a b : Int) (w : World) : Calls Tryz.prog 71 #[.int .i64 a, .int .i64 b] w fun e w' => e = .returned (.int .i64 (truthI (decide (a ≤ b)))) ∧ w' = w := by
  go_enter Tryz.func71, Tryz.ntmps71
  go_wp2_with fail
  refine (truth_any _ _).mono ?_
  rintro ee x1 ⟨rfl, hx1⟩
  have hx2 := hx1.symm
  subst hx2
  clear hx1
  go_wp2
  go_ret
  exact ⟨rfl, rfl⟩

theorem do_gt (a b : Int) (w : World) : Calls Tryz.prog 72 #[.int .i64 a, .int .i64 b] w fun e w' => e = .returned (.int .i64 (truthI (decide (b < a)))) ∧ w' = w := by
  go_enter Tryz.func72, Tryz.ntmps72
  go_wp2_with fail
  refine (truth_any _ _).mono ?_
  rintro ee x1 ⟨rfl, hx1⟩
  have hx2 := hx1.symm
  subst hx2
  clear hx1
  go_wp2
  go_ret
  exact ⟨rfl, rfl⟩

theorem do_ge (a b : Int) (w : World) : Calls Tryz.prog 73 #[.int .i64 a, .int .i64 b] w fun e w' => e = .returned (.int .i64 (truthI (decide (b ≤ a)))) ∧ w' = w := by
  go_enter Tryz.func73, Tryz.ntmps73
  go_wp2_with fail
  refine (truth_any _ _).mono ?_
  rintro ee x1 ⟨rfl, hx1⟩
  have hx2 := hx1.symm
  subst hx2
  clear hx1
  go_wp2
  go_ret
  exact ⟨rfl, rfl⟩

theorem do_add (a b : Int) (w : World) : Calls Tryz.prog 76 #[.int .i64 a, .int .i64 b] w fun e w' => e = .returned (.int .i64 (wrap64 (a + b))) ∧ w' = w := by
  go_enter Tryz.func76, Tryz.ntmps76
  go_wp2
  go_ret
  exact ⟨rfl, rfl⟩

theorem do_sub (a b : Int) (w : World) : Calls Tryz.prog 77 #[.int .i64 a, .int .i64 b] w fun e w' => e = .returned (.int .i64 (wrap64 (a - b))) ∧ w' = w := by
  go_enter Tryz.func77, Tryz.ntmps77
  go_wp2
  go_ret
  exact ⟨rfl, rfl⟩

theorem do_mul (a b : Int) (w : World) : Calls Tryz.prog 78 #[.int .i64 a, .int .i64 b] w fun e w' => e = .returned (.int .i64 (wrap64 (a * b))) ∧ w' = w := by
  go_enter Tryz.func78, Tryz.ntmps78
  go_wp2
  go_ret
  exact ⟨rfl, rfl⟩

theorem do_plus (a : Int) (w : World) : Calls Tryz.prog 81 #[.int .i64 a] w fun e w' => e = .returned (.int .i64 (a)) ∧ w' = w := by
  go_enter Tryz.func81, Tryz.ntmps81
  go_wp2
  go_ret
  exact ⟨rfl, rfl⟩

theorem do_minus (a : Int) (w : World) : Calls Tryz.prog 82 #[.int .i64 a] w fun e w' => e = .returned (.int .i64 (wrap64 (-a))) ∧ w' = w := by
  go_enter Tryz.func82, Tryz.ntmps82
  go_wp2
  go_ret
  exact ⟨rfl, rfl⟩

theorem do_not (a : Int) (w : World) : Calls Tryz.prog 83 #[.int .i64 a] w fun e w' => e = .returned (.int .i64 (truthI (a == 0))) ∧ w' = w := by
  go_enter Tryz.func83, Tryz.ntmps83
  go_wp2_with fail
  refine (fails_any a _).mono ?_
  rintro ee x1 ⟨rfl, hx1⟩
  have hx2 := hx1.symm
  subst hx2
  clear hx1
  go_wp2_with fail
  refine (truth_any _ _).mono ?_
  rintro ee x1 ⟨rfl, hx1⟩
  have hx2 := hx1.symm
  subst hx2
  clear hx1
  go_wp2
  go_ret
  exact ⟨rfl, rfl⟩

theorem do_both_or (a b : Int) (w : World) : Calls Tryz.prog 60 #[.int .i64 a, .int .i64 b] w fun e w' => e = .returned (.int .i64 (truthI ((a != 0) || (b != 0)))) ∧ w' = w := by
  rcases Bool.eq_false_or_eq_true (a != 0) with ha | ha
  · have H := hide (holds_any a w)
    rw [ha] at H
    have HT := hide (truth_any true w)
    rw [ha]
    clear ha
    go_enter Tryz.func60, Tryz.ntmps60
    go_wp2_with fail
    refine (unhide H).mono ?_
    rintro ee x1 ⟨rfl, hx1⟩
    have hx2 := hx1.symm
    subst hx2
    clear hx1
    go_wp2_with fail
    refine (unhide HT).mono ?_
    rintro ee x1 ⟨rfl, hx1⟩
    have hx2 := hx1.symm
    subst hx2
    clear hx1
    go_wp2
    go_ret
    exact ⟨rfl, rfl⟩
  · have H := hide (holds_any a w)
    rw [ha] at H
    have H2 := hide (holds_any b w)
    have HT := hide (truth_any (b != 0) w)
    rw [ha]
    clear ha
    go_enter Tryz.func60, Tryz.ntmps60
    go_wp2_with fail
    refine (unhide H).mono ?_
    rintro ee x1 ⟨rfl, hx1⟩
    have hx2 := hx1.symm
    subst hx2
    clear hx1
    go_wp2_with fail
    refine (unhide H2).mono ?_
    rintro ee x1 ⟨rfl, hx1⟩
    have hx2 := hx1.symm
    subst hx2
    clear hx1
    go_wp2_with fail
    refine (unhide HT).mono ?_
    rintro ee x1 ⟨rfl, hx1⟩
    have hx2 := hx1.symm
    subst hx2
    clear hx1
    go_wp2
    go_ret
    exact ⟨rfl, rfl⟩

theorem do_both_and (a b : Int) (w : World) : Calls Tryz.prog 63 #[.int .i64 a, .int .i64 b] w fun e w' => e = .returned (.int .i64 (truthI ((a != 0) && (b != 0)))) ∧ w' = w := by
  rcases Bool.eq_false_or_eq_true (a != 0) with ha | ha
  · have H := hide (holds_any a w)
    rw [ha] at H
    have H2 := hide (holds_any b w)
    have HT := hide (truth_any (b != 0) w)
    rw [ha]
    clear ha
    go_enter Tryz.func63, Tryz.ntmps63
    go_wp2_with fail
    refine (unhide H).mono ?_
    rintro ee x1 ⟨rfl, hx1⟩
    have hx2 := hx1.symm
    subst hx2
    clear hx1
    go_wp2_with fail
    refine (unhide H2).mono ?_
    rintro ee x1 ⟨rfl, hx1⟩
    have hx2 := hx1.symm
    subst hx2
    clear hx1
    go_wp2_with fail
    refine (unhide HT).mono ?_
    rintro ee x1 ⟨rfl, hx1⟩
    have hx2 := hx1.symm
    subst hx2
    clear hx1
    go_wp2
    go_ret
    exact ⟨rfl, rfl⟩
  · have H := hide (holds_any a w)
    rw [ha] at H
    have HT := hide (truth_any false w)
    rw [ha]
    clear ha
    go_enter Tryz.func63, Tryz.ntmps63
    go_wp2_with fail
    refine (unhide H).mono ?_
    rintro ee x1 ⟨rfl, hx1⟩
    have hx2 := hx1.symm
    subst hx2
    clear hx1
    go_wp2_with fail
    refine (unhide HT).mono ?_
    rintro ee x1 ⟨rfl, hx1⟩
    have hx2 := hx1.symm
    subst hx2
    clear hx1
    go_wp2
    go_ret
    exact ⟨rfl, rfl⟩

theorem do_inv (a : Int) (w : World) : Calls Tryz.prog 84 #[.int .i64 a] w fun e w' => e = .returned (.int .i64 (bits BinOp.xor IntKind.i64 (-1) a)) ∧ w' = w := by
  go_enter Tryz.func84, Tryz.ntmps84
  go_wp2
  go_ret
  exact ⟨rfl, rfl⟩

theorem do_quo (a b : Int) (w : World) (hb : b ≠ 0) : Calls Tryz.prog 79 #[.int .i64 a, .int .i64 b] w fun e w' => e = .returned (.int .i64 (wrap64 (a.tdiv b))) ∧ w' = w := by
  have hb2 : (b == 0) = false := by simpa using hb
  go_enter Tryz.func79, Tryz.ntmps79
  go_wp2
  go_ret
  exact ⟨rfl, rfl⟩

theorem do_rem (a b : Int) (w : World) (hb : b ≠ 0) : Calls Tryz.prog 80 #[.int .i64 a, .int .i64 b] w fun e w' => e = .returned (.int .i64 (a.tmod b)) ∧ w' = w := by
  have hb2 : (b == 0) = false := by simpa using hb
  go_enter Tryz.func80, Tryz.ntmps80
  go_wp2
  go_ret
  exact ⟨rfl, rfl⟩

theorem do_shl (a b : Int) (w : World) (k : Nat) (hk : bits BinOp.and IntKind.i64 b 63 = (k : Int)) (hk2 : k < 64) : Calls Tryz.prog 74 #[.int .i64 a, .int .i64 b] w fun e w' => e = .returned (.int .i64 (wrap64 (a * 2 ^ k))) ∧ w' = w := by
  go_enter Tryz.func74, Tryz.ntmps74
  go_wp2
  go_ret
  exact ⟨rfl, rfl⟩

theorem do_shr (a b : Int) (w : World) (k : Nat) (hk : bits BinOp.and IntKind.i64 b 63 = (k : Int)) (hk2 : k < 64) : Calls Tryz.prog 75 #[.int .i64 a, .int .i64 b] w fun e w' => e = .returned (.int .i64 (a / 2 ^ k)) ∧ w' = w := by
  go_enter Tryz.func75, Tryz.ntmps75
  go_wp2
  go_ret
  exact ⟨rfl, rfl⟩

end Go.Proofs.YtlbpeknncakfeaaGreatDoor
