/-
  BlocksKeeps, where its arguments are out of its bounds: the examples alone.
-/
import Derived.Test.YtfolnccpnncmiaaBStart
namespace Go.Proofs.Ytfolnccpnncmiaa
open Go.RowKit

set_option maxRecDepth 20000 in
set_option maxHeartbeats 4000000 in
theorem keeps_bad (n m ask b a z : Int) (d : List UInt8) (w : World) (hn : I64 n) (hm : I64 m) (hb : I64 b) (ha : I64 a) (hok : ¬ (1 ≤ n ∧ n ≤ 100 ∧ 1 ≤ m ∧ m ≤ n ∧ 1 ≤ b ∧ b ≤ m ∧ 0 ≤ a ∧ a ≤ 64 ∧ (d.length : Int) ≤ 64 - a)) : Calls Try.prog 4 #[.int .i64 n, .int .i64 m, .agg #[.int .i64 ask, .int .i64 b, .int .i64 a, .int .i64 z, .string (BA d)]] w fun e w' => e = .returned (.bool true) ∧ Below w.heap.size w w' := by
  have HAW : Hid (∀ W, Below w.heap.size w W → Calls Try.prog 10 #[] W fun e w' => e = .returned (.bool true) ∧ Below w.heap.size w w') := hide (fun W hW => (awake_any W).mono (fun e w' ⟨h1, h2⟩ => ⟨h1, hW.trans (h2.mono hW.size)⟩))
  unfold I64 at hn hm hb ha
  have hbad : n < 1 ∨ (1 ≤ n ∧ 100 < n) ∨ (1 ≤ n ∧ n ≤ 100 ∧ m < 1) ∨ (1 ≤ n ∧ n ≤ 100 ∧ 1 ≤ m ∧ n < m) ∨ (1 ≤ n ∧ n ≤ 100 ∧ 1 ≤ m ∧ m ≤ n ∧ b < 1) ∨ (1 ≤ n ∧ n ≤ 100 ∧ 1 ≤ m ∧ m ≤ n ∧ 1 ≤ b ∧ m < b) ∨ (1 ≤ n ∧ n ≤ 100 ∧ 1 ≤ m ∧ m ≤ n ∧ 1 ≤ b ∧ b ≤ m ∧ a < 0) ∨ (1 ≤ n ∧ n ≤ 100 ∧ 1 ≤ m ∧ m ≤ n ∧ 1 ≤ b ∧ b ≤ m ∧ 0 ≤ a ∧ 64 < a) ∨ (1 ≤ n ∧ n ≤ 100 ∧ 1 ≤ m ∧ m ≤ n ∧ 1 ≤ b ∧ b ≤ m ∧ 0 ≤ a ∧ a ≤ 64 ∧ 64 - a < (d.length : Int)) := by omega
  clear hok
  rcases hbad with h1 | ⟨h1, h2⟩ | ⟨h1, h2, h3⟩ | ⟨h1, h2, h3, h4⟩ | ⟨h1, h2, h3, h4, h5⟩ | ⟨h1, h2, h3, h4, h5, h6⟩ | ⟨h1, h2, h3, h4, h5, h6, h7⟩ | ⟨h1, h2, h3, h4, h5, h6, h7, h8⟩ | ⟨h1, h2, h3, h4, h5, h6, h7, h8, h9⟩
  all_goals
    go_enter Try.func4, Try.ntmps4
    go_wp2_with fail
    refine (unhide HAW _ ((Below.refl _ w).alloc (Nat.le_refl _) _)).mono ?_
    rintro e w2 ⟨rfl, b2⟩
    have HB2 := hide b2
    clear b2
    go_wp2
    go_ret
    exact ⟨rfl, unhide HB2⟩


end Go.Proofs.Ytfolnccpnncmiaa
