/-
  What the operators of the tables do, at any function value of theirs; the number's text.
-/
import Derived.Test.YtlbpeknncakfeaaGreatDoorRead
import Derived.Test.YtlbpeknncakfeaaGreatDoorOps
import Derived.OpenShut
import Derived.Lib.SmallJoins
namespace Go.Proofs.YtlbpeknncakfeaaGreatDoor
open Go.RowKit Go.Maps

/-- A shift's width. -/
def shW (b : Int) : Nat := (b % 64).toNat
theorem and63 (b : Int) : bits BinOp.and IntKind.i64 b 63 = (shW b : Int) ∧ shW b < 64 := by
  have h1 : (BitVec.ofInt 64 b &&& BitVec.ofInt 64 63).toNat = (b % 64).toNat := by
    rw [BitVec.toNat_and, BitVec.toNat_ofInt, BitVec.toNat_ofInt]
    rw [show ((63 : Int) % (2 ^ 64 : Nat)).toNat = 2 ^ 6 - 1 by decide, Nat.and_two_pow_sub_one_eq_mod]
    omega
  have h2 : (b % 64).toNat < 64 := by omega
  refine ⟨?_, h2⟩
  show IntKind.i64.wrap ((BitVec.ofInt 64 b &&& BitVec.ofInt 64 63).toNat : Int) = _
  rw [h1, IntKind.wrap_i64]
  unfold shW
  omega

/-- What an operator makes of two numbers. -/
def doI (k : Nat) (a b : Int) : Int := match k with
  | 60 => truthI ((a != 0) || (b != 0))
  | 63 => truthI ((a != 0) && (b != 0))
  | 65 => bits BinOp.or IntKind.i64 a b
  | 66 => bits BinOp.xor IntKind.i64 a b
  | 67 => bits BinOp.and IntKind.i64 a b
  | 68 => truthI (a == b)
  | 69 => truthI (a != b)
  | 70 => truthI (decide (a < b))
  | 71 => truthI (decide (a ≤ b))
  | 72 => truthI (decide (b < a))
  | 73 => truthI (decide (b ≤ a))
  | 74 => wrap64 (a * 2 ^ shW b)
  | 75 => a / 2 ^ shW b
  | 76 => wrap64 (a + b)
  | 77 => wrap64 (a - b)
  | 78 => wrap64 (a * b)
  | 79 => wrap64 (a.tdiv b)
  | _ => a.tmod b
def signI (k : Nat) (a : Int) : Int := match k with
  | 81 => a
  | 82 => wrap64 (-a)
  | 83 => truthI (a == 0)
  | _ => bits BinOp.xor IntKind.i64 (-1) a
def enoughB (o : Opr) (a : Int) : Bool := match o.enough with
  | none => false
  | some 62 => a != 0
  | some _ => a == 0

theorem ops_cases {o : Opr} (h : OprOk o) : o = ⟨1, 60, some 62, false⟩ ∨ o = ⟨2, 63, some 64, false⟩ ∨ o = ⟨3, 65, none, false⟩ ∨ o = ⟨4, 66, none, false⟩ ∨ o = ⟨5, 67, none, false⟩ ∨ o = ⟨6, 68, none, false⟩ ∨ o = ⟨6, 69, none, false⟩ ∨ o = ⟨7, 70, none, false⟩ ∨
    o = ⟨7, 71, none, false⟩ ∨ o = ⟨7, 72, none, false⟩ ∨ o = ⟨7, 73, none, false⟩ ∨ o = ⟨8, 74, none, false⟩ ∨ o = ⟨8, 75, none, false⟩ ∨ o = ⟨9, 76, none, false⟩ ∨ o = ⟨9, 77, none, false⟩ ∨ o = ⟨10, 78, none, false⟩ ∨ o = ⟨10, 79, none, true⟩ ∨ o = ⟨10, 80, none, true⟩ := by
  unfold OprOk opsT at h
  simpa using h

theorem do_any (o : Opr) (ho : OprOk o) (a b : Int) (hd : o.div = true → b ≠ 0) (w : World) : Calls Tryz.prog o.fn #[.int .i64 a, .int .i64 b] w fun e w' => e = .returned (.int .i64 (doI o.fn a b)) ∧ w' = w := by
  have hs := and63 b
  rcases ops_cases ho with rfl | rfl | rfl | rfl | rfl | rfl | rfl | rfl | rfl | rfl | rfl | rfl | rfl | rfl | rfl | rfl | rfl | rfl
  · exact do_both_or a b w
  · exact do_both_and a b w
  · exact do_or a b w
  · exact do_xor a b w
  · exact do_and a b w
  · exact do_eq a b w
  · exact do_ne a b w
  · exact do_lt a b w
  · exact do_le a b w
  · exact do_gt a b w
  · exact do_ge a b w
  · exact do_shl a b w (shW b) hs.1 hs.2
  · exact do_shr a b w (shW b) hs.1 hs.2
  · exact do_add a b w
  · exact do_sub a b w
  · exact do_mul a b w
  · exact do_quo a b w (hd rfl)
  · exact do_rem a b w (hd rfl)
theorem do_call (o : Opr) (ho : OprOk o) (args : Array Value) (w : World) : (callFunc o.fn args).run Tryz.prog w = .ok (.enter o.fn args) w := by
  rcases ops_cases ho with rfl | rfl | rfl | rfl | rfl | rfl | rfl | rfl | rfl | rfl | rfl | rfl | rfl | rfl | rfl | rfl | rfl | rfl
  all_goals kernel_rfl
theorem sign_any (k : Nat) (hk : 81 ≤ k ∧ k ≤ 84) (a : Int) (w : World) : Calls Tryz.prog k #[.int .i64 a] w fun e w' => e = .returned (.int .i64 (signI k a)) ∧ w' = w := by
  obtain rfl | rfl | rfl | rfl : k = 81 ∨ k = 82 ∨ k = 83 ∨ k = 84 := by omega
  · exact do_plus a w
  · exact do_minus a w
  · exact do_not a w
  · exact do_inv a w
theorem sign_call (k : Nat) (hk : 81 ≤ k ∧ k ≤ 84) (args : Array Value) (w : World) : (callFunc k args).run Tryz.prog w = .ok (.enter k args) w := by
  obtain rfl | rfl | rfl | rfl : k = 81 ∨ k = 82 ∨ k = 83 ∨ k = 84 := by omega
  all_goals kernel_rfl

/-- A number of Go's. -/
def I64 (n : Int) : Prop := -9223372036854775808 ≤ n ∧ n ≤ 9223372036854775807
theorem I64.wf {n : Int} (h : I64 n) : (Lit.int .i64 n).wf = true := WalkArith.wf_i64 (by have := h.1; have := h.2; omega)
theorem i64_of_wf {n : Int} (h : (Lit.int .i64 n).wf = true) : I64 n := by
  simp [Lit.wf, IntKind.min, IntKind.max, IntKind.signed, IntKind.bits] at h
  exact ⟨by omega, by omega⟩
theorem i64_wrap (n : Int) : I64 (wrap64 n) := by unfold wrap64; exact ⟨by omega, by omega⟩
theorem i64_bits (op : BinOp) (x y : Int) : I64 (bits op IntKind.i64 x y) := i64_of_wf (wf_bits _ _ _ _)
theorem i64_truth (b : Bool) : I64 (truthI b) := by cases b <;> exact ⟨by decide, by decide⟩
theorem i64_shr {a : Int} (h : I64 a) (k : Nat) : I64 (a / 2 ^ k) := by
  have hp : (0 : Int) < 2 ^ k := Int.pow_pos (by decide)
  have h1 : (1 : Int) ≤ 2 ^ k := hp
  obtain ⟨ha, hb⟩ := h
  constructor
  · rw [Int.le_ediv_iff_mul_le hp]
    have : (-9223372036854775808 : Int) * 2 ^ k ≤ -9223372036854775808 * 1 := Int.mul_le_mul_of_nonpos_left (by decide) h1
    omega
  · have h2 : a / 2 ^ k ≤ 9223372036854775807 / 2 ^ k := Int.ediv_le_ediv hp hb
    have h3 : (9223372036854775807 : Int) / 2 ^ k ≤ 9223372036854775807 := Int.ediv_le_self _ (by decide)
    omega
theorem i64_tmod {a b : Int} (h : I64 a) : I64 (a.tmod b) := by
  obtain ⟨ha, hb⟩ := h
  have h1 := Int.natAbs_tmod a b
  have h2 : (a.tmod b).natAbs ≤ a.natAbs := by rw [h1]; exact Nat.mod_le _ _
  constructor
  · by_cases h0 : 0 ≤ a
    · have := Int.tmod_nonneg b h0; omega
    · omega
  · by_cases h0 : 0 ≤ a
    · omega
    · have h3 : a.tmod b ≤ 0 := by
        have := Int.tmod_nonneg (a := -a) b (by omega)
        rw [Int.neg_tmod] at this
        omega
      omega
theorem i64_do {a : Int} (h : I64 a) (k : Nat) (b : Int) : I64 (doI k a b) := by
  unfold doI
  split
  all_goals first
    | exact i64_truth _
    | exact i64_bits _ _ _
    | exact i64_wrap _
    | exact i64_shr h _
    | exact i64_tmod h
theorem i64_sign {a : Int} (h : I64 a) (k : Nat) : I64 (signI k a) := by
  unfold signI
  split
  all_goals first
    | exact h
    | exact i64_truth _
    | exact i64_bits _ _ _
    | exact i64_wrap _

/-- What the library's variables hold. -/
structure Env (w : World) : Prop where
  glob : Glob w
  tab : Lib.TabIs Tryz.prog w "internal/strconv.uint64pow10" .u64 Lib.pow10Tab
theorem gPow : ∃ g, Tryz.prog.globalNamed "internal/strconv.uint64pow10" = some g := ⟨4, by kernel_rfl⟩
theorem Env.below {w w' : World} (h : Env w) (hb : Below w.heap.size w w') : Env w' := by
  obtain ⟨g, hg⟩ := gPow
  exact ⟨h.glob.below hb, Joins.tab_stays hg h.tab hb (Nat.le_refl _)⟩
theorem below_grow (w : World) (n : Nat) (os : Array Obj) : Below w.heap.size w (Sort.grow (w.drewN n) os) :=
  ⟨rfl, rfl, rfl, by simp [Sort.grow], fun i hi => by
    show ((w.drewN n).heap ++ os)[i]? = _
    rw [Array.getElem?_append_left (by show i < w.heap.size; omega)]
    rfl⟩
def textL (n : Int) : List UInt8 := Lib.itoa n
theorem text_any (n : Int) (w : World) (he : Env w) (hn : I64 n) :
    Calls Tryz.prog 17 #[.int .i64 n] w fun e w' => e = .returned (.string (BA (textL n))) ∧ Below w.heap.size w w' := by
  go_enter Tryz.func17, Tryz.ntmps17
  go_wp2_with fail
  refine (Tryz.strconv_Itoa _ hn.1 hn.2 _ he.tab).mono ?_
  rintro e w1 ⟨rfl, k, os, rfl⟩
  go_wp2_with fail
  go_ret
  exact ⟨rfl, below_grow _ _ _⟩

end Go.Proofs.YtlbpeknncakfeaaGreatDoor
