/-
  zeros, bytesOf, bytes; Read.
  bytes; Read.
-/
import Derived.Test.YtemologkibcdoaaM07
import Derived.Test.YtemologkibcdoaaM06
import Derived.Test.YtemologkibcdoaaM08

/- zeros, bytesOf, bytes; Read. -/
namespace Go.Proofs.Ytemologkibcdoaa
open Go.RowKit Go.Maps

def zerosL (n : Nat) : List UInt8 := List.replicate n 0
theorem repeat_zero : ∀ n, Lib.repeatL [0] n = zerosL n
  | 0 => rfl
  | n + 1 => by
    show [0] ++ Lib.repeatL [0] n = List.replicate (n + 1) 0
    rw [repeat_zero n, List.replicate_succ]
    rfl
/-- n bytes of a node from a on. -/
def bytsOf (x : Nd) (a n : Nat) : List UInt8 := (List.range n).map (fun j => x.byt (a + j))
theorem bytsOf_len (x : Nd) (a n : Nat) : (bytsOf x a n).length = n := by simp [bytsOf]
theorem bytsOf_app (x : Nd) (a n m : Nat) : bytsOf x a (n + m) = bytsOf x a n ++ bytsOf x (a + n) m := by
  unfold bytsOf
  rw [List.range_add, List.map_append, List.map_map]
  congr 1
  apply List.map_congr_left
  intro j _
  show x.byt (a + (n + j)) = x.byt (a + n + j)
  rw [Nat.add_assoc]
theorem zeroI (w : World) : (zeroValue 3).run Try.prog w = .ok (.int .i64 0) w := by kernel_rfl
end Go.Proofs.Ytemologkibcdoaa

/- bytes; Read. -/
namespace Go.Proofs.Ytemologkibcdoaa
open Go.RowKit Go.Maps

theorem TL.below {w w' : World} {p : Nat} {L : Lay} {T : TB} (H : TL w p L T) (hb : Below w.heap.size w w') : TL w' p L T :=
  H.grownS (S := fun _ => False) (grownS_of_below hb) (H.lt.mono (fun _ _ e => e))

end Go.Proofs.Ytemologkibcdoaa
