/-
  BlocksNil: a nil store has nothing.
-/
import Derived.Test.YtfolnccpnncmiaaBHeld
namespace Go.Proofs.Ytfolnccpnncmiaa
open Go.RowKit

set_option maxRecDepth 20000 in
set_option maxHeartbeats 1000000 in
theorem nil_walk (b : Int) (s : ByteArray) (w : World) : Calls Try.prog 7 #[.int .i64 b, .string s] w fun e w' => e = .returned (.bool true) ∧ Below w.heap.size w w' := by
  go_enter Try.func7, Try.ntmps7
  go_wp2_with fail
  refine (take_nil w).mono ?_
  rintro e w1 ⟨rfl, hw1⟩
  rw [show w1 = w from hw1]
  clear hw1
  go_wp2_with fail
  refine (read_nil b b b w).mono ?_
  rintro e w1 ⟨rfl, hw1⟩
  rw [show w1 = w from hw1]
  clear hw1
  go_wp2_with fail
  refine (give_nil b w).mono ?_
  rintro e w1 ⟨rfl, hw1⟩
  rw [show w1 = w from hw1]
  clear hw1
  go_wp2_with fail
  refine (write_nil b b s w).mono ?_
  rintro e w1 ⟨rfl, hw1⟩
  rw [show w1 = w from hw1]
  clear hw1
  go_wp2_with fail
  refine (free_nil w).mono ?_
  rintro e w1 ⟨rfl, hw1⟩
  rw [show w1 = w from hw1]
  clear hw1
  go_wp2_with fail
  refine (copy_nil w).mono ?_
  rintro e w1 ⟨rfl, hw1⟩
  rw [show w1 = w from hw1]
  clear hw1
  go_wp2_with fail
  refine (awake_any w).mono ?_
  rintro e w1 ⟨rfl, hw1⟩
  have HB := hide hw1
  clear hw1
  go_wp2
  go_ret
  exact ⟨rfl, unhide HB⟩

end Go.Proofs.Ytfolnccpnncmiaa
