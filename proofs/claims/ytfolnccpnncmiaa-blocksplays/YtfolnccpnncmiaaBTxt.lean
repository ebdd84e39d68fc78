/-
  Texts put together.
-/
import Derived.Test.YtfolnccpnncmiaaBMem
namespace Go.Proofs.Ytfolnccpnncmiaa
open Go.RowKit

theorem BA_add (a b : List UInt8) : BA a ++ BA b = BA (a ++ b) := by
  apply ByteArray.ext
  apply Array.ext'
  simp [BA]
theorem put_BA (x d : List UInt8) (k : Nat) : BA (x.take k) ++ BA d ++ BA (x.drop (k + d.length)) = BA (putAt x k d) := by
  rw [BA_add, BA_add]
  rfl
theorem ext_take (x : List UInt8) (k : Nat) : (BA x).extract 0 k = BA (x.take k) := by
  have := extract_take (BA x) 0 k
  rwa [Nat.zero_add, BA_list, List.drop_zero] at this
theorem ext_drop (x : List UInt8) (k n : Nat) (h : x.length = n) : (BA x).extract k n = BA (x.drop k) := by
  have := extract_end (BA x) k
  rwa [BA_size, h, BA_list] at this

end Go.Proofs.Ytfolnccpnncmiaa
