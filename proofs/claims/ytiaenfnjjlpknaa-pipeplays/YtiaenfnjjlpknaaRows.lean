/-
  No cell of these rows narrows 'for every input' (looked for: loops, veiled, ifaces, maps, wideKeys, modest, calm, conditions, laid).
  DERIVED. THE GIVEN ROWS OF THIS SEAT. 4 by the template 'for every input the law returns true; each argument reads behind the call as it read before'; 0 by the template 'total and deterministic' (their statements: YtiaenfnjjlpknaaTotals.lean).
  GIVEN WITH THE SEED: the statements are not yours to turn. If you find one false, say at which input.
  Laid BY PROGRAM, IN A SANDBOX (cutbox-rows.mjs): the forced cells as the released guide's own fill.sh prints them over the translation f3c14eb85ef0c265… (all of the seat's roots in one cut). By AI agents, Wed Nov 11 2026. No macro, syntax, notation, axiom, sorry.
-/
import Derived.Test.YtiaenfnjjlpknaaChecked
import GoSem.Claim
import GoSem.ClaimJoined
import GoSem.ClaimMapViews
import Derived.JoinedTies
import Derived.KernelRfl
namespace Go.Proofs.Ytiaenfnjjlpknaa
/- THE CELL 'sum', in the pinned program and in every row, IS THE sha256 OF THE DUMP (.gsa) THAT YtiaenfnjjlpknaaProg.lean LOADS. Nothing in Lean hashes anything: it is a label: what it is worth is what the hold of that sum in a sandbox is worth. -/
noncomputable def Try.pinned : Pinned := { name := "ytiaenfnjjlpknaa", sum := "f3c14eb85ef0c2658e97c7ddc217adef459e0b1bac499611b7840cb1b9297105", checked := Try.checked }
namespace Rows
def none {H : Type} : Left H := { results := [], args := [] }

/-- 'conchlaw15.PipePlays': WHATEVER THE INPUT: true; the input reads as it did. -/
def pipePlaysSpec : ChangeSpec := { name := "pipePlays", fn := fun _ => fun
  | [d] => { results := [.lit (.bool true)], args := [d] }
  | _ => none }
def pipePlaysRow : OpenClaim := { program := "ytiaenfnjjlpknaa", sum := "f3c14eb85ef0c2658e97c7ddc217adef459e0b1bac499611b7840cb1b9297105", func := "conch/conchlaw15.PipePlays", spec := "pipePlays", apart := false }
def PipePlaysSaid : Prop := pipePlaysRow.holds Try.pinned (OpenSpec.ofChange pipePlaysSpec)

/-- ITS FALSE NEIGHBOUR: 'it returns false'. Refute it at one input. -/
def pipePlaysWrong : ChangeSpec := { name := "pipePlays", fn := fun _ => fun
  | [d] => { results := [.lit (.bool false)], args := [d] }
  | _ => none }
def PipePlaysWrongFalsely : Prop := pipePlaysRow.holds Try.pinned (OpenSpec.ofChange pipePlaysWrong)

/-- 'conchlaw15.PipePasses': WHATEVER THE INPUT: true; the input reads as it did. -/
def pipePassesSpec : ChangeSpec := { name := "pipePasses", fn := fun _ => fun
  | [d] => { results := [.lit (.bool true)], args := [d] }
  | _ => none }
def pipePassesRow : OpenClaim := { program := "ytiaenfnjjlpknaa", sum := "f3c14eb85ef0c2658e97c7ddc217adef459e0b1bac499611b7840cb1b9297105", func := "conch/conchlaw15.PipePasses", spec := "pipePasses", apart := false }
def PipePassesSaid : Prop := pipePassesRow.holds Try.pinned (OpenSpec.ofChange pipePassesSpec)

/-- ITS FALSE NEIGHBOUR: 'it returns false'. Refute it at one input. -/
def pipePassesWrong : ChangeSpec := { name := "pipePasses", fn := fun _ => fun
  | [d] => { results := [.lit (.bool false)], args := [d] }
  | _ => none }
def PipePassesWrongFalsely : Prop := pipePassesRow.holds Try.pinned (OpenSpec.ofChange pipePassesWrong)

/-- 'conchlaw15.PipeLost': WHATEVER THE INPUT: true; the input reads as it did. -/
def pipeLostSpec : ChangeSpec := { name := "pipeLost", fn := fun _ => fun
  | [d1, d2] => { results := [.lit (.bool true)], args := [d1, d2] }
  | _ => none }
def pipeLostRow : OpenClaim := { program := "ytiaenfnjjlpknaa", sum := "f3c14eb85ef0c2658e97c7ddc217adef459e0b1bac499611b7840cb1b9297105", func := "conch/conchlaw15.PipeLost", spec := "pipeLost", apart := false }
def PipeLostSaid : Prop := pipeLostRow.holds Try.pinned (OpenSpec.ofChange pipeLostSpec)

/-- ITS FALSE NEIGHBOUR: 'it returns false'. Refute it at one input. -/
def pipeLostWrong : ChangeSpec := { name := "pipeLost", fn := fun _ => fun
  | [d1, d2] => { results := [.lit (.bool false)], args := [d1, d2] }
  | _ => none }
def PipeLostWrongFalsely : Prop := pipeLostRow.holds Try.pinned (OpenSpec.ofChange pipeLostWrong)

/-- 'conchlaw15.PipeNil': WHATEVER THE INPUT: true; the input reads as it did. -/
def pipeNilSpec : ChangeSpec := { name := "pipeNil", fn := fun _ => fun
  | [d1, d2] => { results := [.lit (.bool true)], args := [d1, d2] }
  | _ => none }
def pipeNilRow : OpenClaim := { program := "ytiaenfnjjlpknaa", sum := "f3c14eb85ef0c2658e97c7ddc217adef459e0b1bac499611b7840cb1b9297105", func := "conch/conchlaw15.PipeNil", spec := "pipeNil", apart := false }
def PipeNilSaid : Prop := pipeNilRow.holds Try.pinned (OpenSpec.ofChange pipeNilSpec)

/-- ITS FALSE NEIGHBOUR: 'it returns false'. Refute it at one input. -/
def pipeNilWrong : ChangeSpec := { name := "pipeNil", fn := fun _ => fun
  | [d1, d2] => { results := [.lit (.bool false)], args := [d1, d2] }
  | _ => none }
def PipeNilWrongFalsely : Prop := pipeNilRow.holds Try.pinned (OpenSpec.ofChange pipeNilWrong)

/- THE SECOND FORM. 'bulk': how many values and letters a reading holds, each counted each time it is reached (what is shared counts as often as it is met; a slice's spare places count too). A statement '..UptoSaid' is the law's where the arguments, and the package variables that the reading takes, are together of bulk at most 1048576: NARROWER than '..Said'. Prove '..Said' where nothing that the law and all that it calls make is longer than what came in: it says more and counts as full. Else prove '..UptoSaid'. A law counts once. -/
mutual
def uptoBulk {H : Type} : DataW H → Nat
  | .lit (.string bytes) => bytes.length + 1
  | .lit _ => 1
  | .nil => 1
  | .ptr d => uptoBulk d + 1
  | .slice elems spare => uptoBulkAll elems + uptoBulkAll spare + 1
  | .agg parts => uptoBulkAll parts + 1
  | .iface _ d => uptoBulk d + 1
  | .map entries => uptoBulkEntries entries + 1
  | .held _ => 1
def uptoBulkAll {H : Type} : List (DataW H) → Nat
  | [] => 0
  | d :: r => uptoBulk d + uptoBulkAll r
def uptoBulkEntries {H : Type} : List (Lit × DataW H) → Nat
  | [] => 0
  | x :: r => uptoBulkEntry x + uptoBulkEntries r
def uptoBulkEntry {H : Type} : Lit × DataW H → Nat
  | (.string bytes, d) => bytes.length + uptoBulk d + 1
  | (_, d) => uptoBulk d + 1
 end
def uptoSmall : (H : Type) → List (DataW H) → Bool := fun _ ds => decide (uptoBulkAll ds ≤ 1048576)
def OpenSpec.upto (s : _root_.Go.ChangeSpec) : _root_.Go.OpenSpec := { _root_.Go.OpenSpec.ofChange s with cond := some uptoSmall }

/-- 'conchlaw15.PipePlays', WHERE WHAT IT READS IS OF BULK AT MOST 1048576: true; the input reads as it did. -/
def pipePlaysUptoRow : OpenClaim := { program := "ytiaenfnjjlpknaa", sum := "f3c14eb85ef0c2658e97c7ddc217adef459e0b1bac499611b7840cb1b9297105", func := "conch/conchlaw15.PipePlays", spec := "pipePlays", apart := false, narrowed := true }
def PipePlaysUptoSaid : Prop := pipePlaysUptoRow.holds Try.pinned (OpenSpec.upto pipePlaysSpec)

/-- 'conchlaw15.PipePasses', WHERE WHAT IT READS IS OF BULK AT MOST 1048576: true; the input reads as it did. -/
def pipePassesUptoRow : OpenClaim := { program := "ytiaenfnjjlpknaa", sum := "f3c14eb85ef0c2658e97c7ddc217adef459e0b1bac499611b7840cb1b9297105", func := "conch/conchlaw15.PipePasses", spec := "pipePasses", apart := false, narrowed := true }
def PipePassesUptoSaid : Prop := pipePassesUptoRow.holds Try.pinned (OpenSpec.upto pipePassesSpec)

/-- 'conchlaw15.PipeLost', WHERE WHAT IT READS IS OF BULK AT MOST 1048576: true; the input reads as it did. -/
def pipeLostUptoRow : OpenClaim := { program := "ytiaenfnjjlpknaa", sum := "f3c14eb85ef0c2658e97c7ddc217adef459e0b1bac499611b7840cb1b9297105", func := "conch/conchlaw15.PipeLost", spec := "pipeLost", apart := false, narrowed := true }
def PipeLostUptoSaid : Prop := pipeLostUptoRow.holds Try.pinned (OpenSpec.upto pipeLostSpec)

/-- 'conchlaw15.PipeNil', WHERE WHAT IT READS IS OF BULK AT MOST 1048576: true; the input reads as it did. -/
def pipeNilUptoRow : OpenClaim := { program := "ytiaenfnjjlpknaa", sum := "f3c14eb85ef0c2658e97c7ddc217adef459e0b1bac499611b7840cb1b9297105", func := "conch/conchlaw15.PipeNil", spec := "pipeNil", apart := false, narrowed := true }
def PipeNilUptoSaid : Prop := pipeNilUptoRow.holds Try.pinned (OpenSpec.upto pipeNilSpec)

end Rows
end Go.Proofs.Ytiaenfnjjlpknaa
