/-
  Classes of bytes, of the program and of the document.
-/
import Derived.Test.YtbcbnoeplapblaaGreatDoorBase
import Derived.Test.YtbcbnoeplapblaaGreatDoorShelf
namespace Go.Proofs.YtbcbnoeplapblaaGreatDoor
open Go.RowKit

def digB (c : Int) : Bool := decide (48 ≤ c) && decide (c ≤ 57)
def blkB (c : Int) : Bool := c == 32 || c == 9
def metB (c : Int) : Bool := c == 32 || c == 9 || c == 10 || c == 124 || c == 38 || c == 59 || c == 60 || c == 62 || c == 40 || c == 41

set_option maxHeartbeats 400000 in
theorem digit_any (c : Int) (w : World) : Calls Tryz.prog 66 #[.int .u8 c] w fun e w' => e = .returned (.bool (digB c)) ∧ w' = w := by
  by_cases h1 : 48 ≤ c
  all_goals by_cases h2 : c ≤ 57
  all_goals
    go_enter Tryz.func66, Tryz.ntmps66
    go_wp2
    go_ret
    exact ⟨ret_bool (by unfold digB; simp [*]), rfl⟩
set_option maxHeartbeats 400000 in
theorem rdigit_any (c : Int) (w : World) : Calls Tryz.prog 68 #[.int .u8 c] w fun e w' => e = .returned (.bool (digB c)) ∧ w' = w := by
  by_cases h1 : 48 ≤ c
  all_goals by_cases h2 : c ≤ 57
  all_goals
    go_enter Tryz.func68, Tryz.ntmps68
    go_wp2
    go_ret
    exact ⟨ret_bool (by unfold digB; simp [*]), rfl⟩

/-- Whether a byte is among a text's. -/
theorem byte_range (c : UInt8) : (0 : Int) ≤ (c.toNat : Int) ∧ (c.toNat : Int) ≤ 255 := by
  have := c.toNat_lt
  omega

end Go.Proofs.YtbcbnoeplapblaaGreatDoor
