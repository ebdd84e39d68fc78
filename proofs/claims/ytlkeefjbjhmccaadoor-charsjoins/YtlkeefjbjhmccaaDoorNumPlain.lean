/-
  Plain facts on numbers in digits: nothing of the program.
-/
import Derived.Test.YtlkeefjbjhmccaaDoorPlain
namespace Go.Proofs.YtlkeefjbjhmccaaDoor

/-- The number that digits are behind a number n, where none comes above most. -/
def numLoop (most : Int) : Int → List UInt8 → Option Int
  | n, [] => some n
  | n, c :: l => if most < (c.toNat : Int) - 48 ∨ (most - ((c.toNat : Int) - 48)) / 10 < n then none else numLoop most (10 * n + ((c.toNat : Int) - 48)) l

def numV : Option Int → Int
  | some n => n
  | none => 0
def numE : Option Int → Int
  | some _ => 0
  | none => 3

theorem drop_eq (l : List UInt8) (k : Nat) (h : k < l.length) : l.drop k = l[k] :: l.drop (k + 1) := List.drop_eq_getElem_cons h

theorem numLoop_over {most n : Int} {l : List UInt8} {k : Nat} (h : k < l.length) (c : most < (l[k].toNat : Int) - 48 ∨ (most - ((l[k].toNat : Int) - 48)) / 10 < n) : numLoop most n (l.drop k) = none := by
  rw [drop_eq l k h, numLoop, if_pos c]

theorem numLoop_step {most n : Int} {l : List UInt8} {k : Nat} (h : k < l.length) (c1 : ¬ most < (l[k].toNat : Int) - 48) (c2 : ¬ (most - ((l[k].toNat : Int) - 48)) / 10 < n) : numLoop most n (l.drop k) = numLoop most (10 * n + ((l[k].toNat : Int) - 48)) (l.drop (k + 1)) := by
  rw [drop_eq l k h, numLoop, if_neg (by omega)]

theorem numLoop_end {most n : Int} {l : List UInt8} {k : Nat} (h : l.length ≤ k) : numLoop most n (l.drop k) = some n := by
  rw [List.drop_eq_nil_of_le h, numLoop]

end Go.Proofs.YtlkeefjbjhmccaaDoor
