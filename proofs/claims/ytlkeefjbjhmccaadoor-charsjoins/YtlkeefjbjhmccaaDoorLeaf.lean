/-
  The contracts of the small classes of bytes of the program and of the document's answer: each returns the class's Bool, and the world stays.
-/
import Derived.Test.YtlkeefjbjhmccaaDoorRows
import Derived.WalkKit
import Derived.WalkSpells
import Derived.WalkLawsBesides
namespace Go.Proofs.YtlkeefjbjhmccaaDoor
open Go.RowKit

def digB (c : Int) : Bool := decide (48 ≤ c) && decide (c ≤ 57)
def alpB (c : Int) : Bool := (decide (97 ≤ c) && decide (c ≤ 122)) || (decide (65 ≤ c) && decide (c ≤ 90)) || c == 95
def blkB (c : Int) : Bool := c == 32 || c == 9
def metB (c : Int) : Bool := c == 32 || c == 9 || c == 10 || c == 124 || c == 38 || c == 59 || c == 60 || c == 62 || c == 40 || c == 41

theorem hide {p : Prop} (h : p) : Hid p := h
theorem unhide {p : Prop} (h : Hid p) : p := h

theorem ret_bool {a b : Bool} (h : a = b) : Ending.returned (.bool a) = .returned (.bool b) := by rw [h]

set_option maxHeartbeats 400000 in
theorem digit_any (c : Int) (w : World) :
    Calls Tryd.prog 11 #[.int .u8 c] w fun e w' => e = .returned (.bool (digB c)) ∧ w' = w := by
  by_cases h1 : 48 ≤ c
  all_goals by_cases h2 : c ≤ 57
  all_goals
    go_enter Tryd.func11, Tryd.ntmps11
    go_wp2
    go_ret
    exact ⟨ret_bool (by unfold digB; simp [*]), rfl⟩

set_option maxHeartbeats 400000 in
theorem rdigit_any (c : Int) (w : World) :
    Calls Tryd.prog 12 #[.int .u8 c] w fun e w' => e = .returned (.bool (digB c)) ∧ w' = w := by
  by_cases h1 : 48 ≤ c
  all_goals by_cases h2 : c ≤ 57
  all_goals
    go_enter Tryd.func12, Tryd.ntmps12
    go_wp2
    go_ret
    exact ⟨ret_bool (by unfold digB; simp [*]), rfl⟩

set_option maxHeartbeats 1000000 in
theorem alpha_any (c : Int) (w : World) :
    Calls Tryd.prog 13 #[.int .u8 c] w fun e w' => e = .returned (.bool (alpB c)) ∧ w' = w := by
  by_cases h1 : 97 ≤ c
  all_goals by_cases h2 : c ≤ 122
  all_goals by_cases h3 : 65 ≤ c
  all_goals by_cases h4 : c ≤ 90
  all_goals try omega
  all_goals rcases Bool.eq_false_or_eq_true (c == 95) with h5 | h5
  all_goals
    go_enter Tryd.func13, Tryd.ntmps13
    go_wp2
    go_ret
    exact ⟨ret_bool (by unfold alpB; simp [*]), rfl⟩

set_option maxHeartbeats 1000000 in
theorem ralpha_any (c : Int) (w : World) :
    Calls Tryd.prog 14 #[.int .u8 c] w fun e w' => e = .returned (.bool (alpB c)) ∧ w' = w := by
  by_cases h1 : 97 ≤ c
  all_goals by_cases h2 : c ≤ 122
  all_goals by_cases h3 : 65 ≤ c
  all_goals by_cases h4 : c ≤ 90
  all_goals try omega
  all_goals rcases Bool.eq_false_or_eq_true (c == 95) with h5 | h5
  all_goals
    go_enter Tryd.func14, Tryd.ntmps14
    go_wp2
    go_ret
    exact ⟨ret_bool (by unfold alpB; simp [*]), rfl⟩

set_option maxHeartbeats 400000 in
theorem rblank_any (c : Int) (w : World) :
    Calls Tryd.prog 10 #[.int .u8 c] w fun e w' => e = .returned (.bool (blkB c)) ∧ w' = w := by
  rcases Bool.eq_false_or_eq_true (c == 32) with h1 | h1
  all_goals rcases Bool.eq_false_or_eq_true (c == 9) with h2 | h2
  all_goals
    go_enter Tryd.func10, Tryd.ntmps10
    go_wp2
    go_ret
    exact ⟨ret_bool (by unfold blkB; simp [*]), rfl⟩

set_option maxHeartbeats 1000000 in
theorem rmeta_any (c : Int) (w : World) :
    Calls Tryd.prog 16 #[.int .u8 c] w fun e w' => e = .returned (.bool (metB c)) ∧ w' = w := by
  go_enter Tryd.func16, Tryd.ntmps16
  go_wp2
  all_goals
    go_ret
    exact ⟨ret_bool (by unfold metB; simp [*]), rfl⟩

end Go.Proofs.YtlkeefjbjhmccaaDoor
