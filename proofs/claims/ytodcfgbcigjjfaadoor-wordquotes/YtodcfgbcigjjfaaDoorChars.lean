/-
  Classes of bytes, of the program and of the document.
-/
import Derived.Test.YtodcfgbcigjjfaaDoorBase
import Derived.Test.YtodcfgbcigjjfaaDoorShelf
namespace Go.Proofs.YtodcfgbcigjjfaaDoor
open Go.RowKit

def digB (c : Int) : Bool := decide (48 ≤ c) && decide (c ≤ 57)
def blkB (c : Int) : Bool := c == 32 || c == 9
def metB (c : Int) : Bool := c == 32 || c == 9 || c == 10 || c == 124 || c == 38 || c == 59 || c == 60 || c == 62 || c == 40 || c == 41

set_option maxHeartbeats 400000 in
theorem digit_any (c : Int) (w : World) : Calls Tryd.prog 70 #[.int .u8 c] w fun e w' => e = .returned (.bool (digB c)) ∧ w' = w := by
  by_cases h1 : 48 ≤ c
  all_goals by_cases h2 : c ≤ 57
  all_goals
    go_enter Tryd.func70, Tryd.ntmps70
    go_wp2
    go_ret
    exact ⟨ret_bool (by unfold digB; simp [*]), rfl⟩

/-- Whether a byte is among a text's. -/
def amgB (l : List UInt8) (c : Int) : Bool := decide (0 ≤ Lib.indexByte l c.toNat.toUInt8)
set_option maxHeartbeats 400000 in
theorem among1_any (p : Nat) (s : ByteArray) (c : Int) (w : World) (hp : w.cell? ⟨p, 0, none⟩ = some (.string s)) :
    Calls Tryd.prog 91 #[.int .u8 c, .pointer (some ⟨p, 0, none⟩)] w fun e w' => e = .returned (.bool (amgB s.data.toList c)) ∧ w' = w := by
  go_enter Tryd.func91, Tryd.ntmps91
  go_wp2_with (go_at_call 42; refine (Tryd.strings_IndexByte _ _ _).mono ?_; rintro e w' ⟨rfl, rfl⟩)
  go_ret
  exact ⟨rfl, rfl⟩
set_option maxHeartbeats 400000 in
theorem among_any (s : ByteArray) (w : World) :
    Calls Tryd.prog 75 #[.string s] w fun e w' => e = .returned (.func (Fn.func 91) #[] #[.pointer (some ⟨w.heap.size, 0, none⟩)]) ∧ w' = w.alloc (.cells #[.string s] 9) := by
  go_enter Tryd.func75, Tryd.ntmps75
  go_wp2
  go_ret
  exact ⟨rfl, rfl⟩
set_option maxHeartbeats 400000 in
theorem blank_amg (c : Int) (w : World) :
    Calls Tryd.prog 74 #[.int .u8 c] w fun e w' => e = .returned (.bool (amgB [32, 9] c)) ∧ Below w.heap.size w w' := by
  go_enter Tryd.func74, Tryd.ntmps74
  go_wp2_with fail
  refine (among_any _ _).mono ?_
  rintro e w' ⟨rfl, rfl⟩
  go_wp2_with fail
  refine (among1_any _ ⟨#[32, 9]⟩ _ _ (by go_simp)).mono ?_
  rintro e w' ⟨rfl, rfl⟩
  go_wp2
  go_ret
  exact ⟨rfl, (Below.refl _ _).alloc (Nat.le_refl _) _⟩
theorem amg_blank_all : ((List.range 256).all fun n => amgB [32, 9] (n : Int) == blkB (n : Int)) = true := by kernel_rfl
theorem amg_meta_all : ((List.range 256).all fun n => (blkB (n : Int) || amgB [10, 124, 38, 59, 60, 62, 40, 41] (n : Int)) == metB (n : Int)) = true := by kernel_rfl
theorem amg_blank (c : Int) (h0 : 0 ≤ c) (h1 : c ≤ 255) : amgB [32, 9] c = blkB c := by
  obtain ⟨n, rfl⟩ : ∃ n : Nat, c = n := ⟨c.toNat, by omega⟩
  simpa using List.all_eq_true.1 amg_blank_all n (List.mem_range.2 (by omega))
theorem amg_meta (c : Int) (h0 : 0 ≤ c) (h1 : c ≤ 255) : (blkB c || amgB [10, 124, 38, 59, 60, 62, 40, 41] c) = metB c := by
  obtain ⟨n, rfl⟩ : ∃ n : Nat, c = n := ⟨c.toNat, by omega⟩
  exact beq_iff_eq.1 (List.all_eq_true.1 amg_meta_all n (List.mem_range.2 (by omega)))
theorem blank_any (c : Int) (w : World) (h0 : 0 ≤ c) (h1 : c ≤ 255) :
    Calls Tryd.prog 74 #[.int .u8 c] w fun e w' => e = .returned (.bool (blkB c)) ∧ Below w.heap.size w w' := by
  rw [← amg_blank c h0 h1]
  exact blank_amg c w
set_option maxHeartbeats 800000 in
theorem meta_any (c : Int) (w : World) (h0 : 0 ≤ c) (h1 : c ≤ 255) :
    Calls Tryd.prog 58 #[.int .u8 c] w fun e w' => e = .returned (.bool (metB c)) ∧ Below w.heap.size w w' := by
  rcases Bool.eq_false_or_eq_true (amgB [32, 9] c) with hb | hb
  · go_enter Tryd.func58, Tryd.ntmps58
    go_wp2_with fail
    refine (blank_amg _ _).mono ?_
    rintro e w1 ⟨rfl, b1⟩
    go_wp2_with fail
    go_ret
    exact ⟨ret_bool (by rw [← amg_meta c h0 h1, ← amg_blank c h0 h1, hb]; rfl), b1⟩
  · go_enter Tryd.func58, Tryd.ntmps58
    go_wp2_with fail
    refine (blank_amg _ _).mono ?_
    rintro e w1 ⟨rfl, b1⟩
    go_wp2_with fail
    refine (among_any _ _).mono ?_
    rintro e w' ⟨rfl, rfl⟩
    go_wp2_with fail
    refine (among1_any _ ⟨#[10, 124, 38, 59, 60, 62, 40, 41]⟩ _ _ (by go_simp)).mono ?_
    rintro e w' ⟨rfl, rfl⟩
    go_wp2_with fail
    go_ret
    exact ⟨ret_bool (by rw [← amg_meta c h0 h1, ← amg_blank c h0 h1, hb]; rfl), b1.alloc b1.size _⟩
theorem byte_range (c : UInt8) : (0 : Int) ≤ (c.toNat : Int) ∧ (c.toNat : Int) ≤ 255 := by
  have := c.toNat_lt
  omega

end Go.Proofs.YtodcfgbcigjjfaaDoor
