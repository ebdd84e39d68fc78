/-
  DERIVED. GIVEN WITH THE SEED: THE CARDS: each row of YtlbpeknncakfeaaGreatDoorRows.lean that lists a variable, with what it lists TIED to the program's text (the seventh form; the later family's looks); each row that meets fmt, with fmt's text TOLD by the authors' own Lean function (tested against real Go, not proved from fmt's source: count such statements apart). THE CARD IS WHAT COUNTS. Prove the row's statement (the work); the ties are given (YtlbpeknncakfeaaGreatDoorTie.lean); close each card by the builder's one call (the guide's Derived/Test/ToyasCard.lean, 'card_holds'). Laid BY PROGRAM, IN A SANDBOX (cutbox-door.mjs). By AI agents, Wed Nov 11 2026. No macro, syntax, notation, axiom, sorry.
-/
import Derived.Test.YtlbpeknncakfeaaGreatDoorRows
import GoSem.ClaimSeven
namespace Go.Proofs.YtlbpeknncakfeaaGreatDoor
namespace Rows

/-- THE TIED CARD OF 'conchlaw03.ArithValues'. -/
def arithValuesCard : Claim7 := { stood := { row := arithValuesRow, standIns := [], harness := (true, "a5c63b735f0707980e6a6b49a9b9466cb4e0ad6100d085c50bc295af36e29eb0"), looks := true }, kinds := [], alts := [], laidByText := true, laidKinds := [.data, .data, .data, .data, .sentinel, .sentinel, .pinned], laidTests := true, laidLooks := .later }
def ArithValuesCardSaid : Prop := Claim7.holds Tryz.pinned (.plain (OpenSpec.ofChange arithValuesSpec)) arithValuesCard

/-- THE TIED CARD OF 'conchlaw03.ArithEvals'. -/
def arithEvalsCard : Claim7 := { stood := { row := arithEvalsRow, standIns := [], harness := (true, "a5c63b735f0707980e6a6b49a9b9466cb4e0ad6100d085c50bc295af36e29eb0"), looks := true }, kinds := [], alts := [], laidByText := true, laidKinds := [.data, .data, .data, .data, .sentinel, .sentinel, .pinned], laidTests := true, laidLooks := .later }
def ArithEvalsCardSaid : Prop := Claim7.holds Tryz.pinned (.plain (OpenSpec.ofChange arithEvalsSpec)) arithEvalsCard

/-- THE TIED CARD OF 'conchlaw03.ArithBrackets'. -/
def arithBracketsCard : Claim7 := { stood := { row := arithBracketsRow, standIns := [], harness := (true, "a5c63b735f0707980e6a6b49a9b9466cb4e0ad6100d085c50bc295af36e29eb0"), looks := true }, kinds := [], alts := [], laidByText := true, laidKinds := [.data, .data, .data, .data, .sentinel, .sentinel, .pinned], laidTests := true, laidLooks := .later }
def ArithBracketsCardSaid : Prop := Claim7.holds Tryz.pinned (.plain (OpenSpec.ofChange arithBracketsSpec)) arithBracketsCard

/-- THE TIED CARD OF 'conchlaw03.ArithSums'. -/
def arithSumsCard : Claim7 := { stood := { row := arithSumsRow, standIns := [], harness := (true, "a5c63b735f0707980e6a6b49a9b9466cb4e0ad6100d085c50bc295af36e29eb0"), looks := true }, kinds := [], alts := [], laidByText := true, laidKinds := [.data, .data, .data, .data, .sentinel, .sentinel, .pinned], laidTests := true, laidLooks := .later }
def ArithSumsCardSaid : Prop := Claim7.holds Tryz.pinned (.plain (OpenSpec.ofChange arithSumsSpec)) arithSumsCard

/-- THE TIED CARD OF 'conchlaw03.ArithSets'. -/
def arithSetsCard : Claim7 := { stood := { row := arithSetsRow, standIns := [], harness := (true, "a5c63b735f0707980e6a6b49a9b9466cb4e0ad6100d085c50bc295af36e29eb0"), looks := true }, kinds := [], alts := [], laidByText := true, laidKinds := [.data, .data, .data, .data, .sentinel, .sentinel, .pinned], laidTests := true, laidLooks := .later }
def ArithSetsCardSaid : Prop := Claim7.holds Tryz.pinned (.plain (OpenSpec.ofChange arithSetsSpec)) arithSetsCard

/-- THE TIED CARD OF 'conchlaw03.ArithErrs'. -/
def arithErrsCard : Claim7 := { stood := { row := arithErrsRow, standIns := [], harness := (true, "a5c63b735f0707980e6a6b49a9b9466cb4e0ad6100d085c50bc295af36e29eb0"), looks := true }, kinds := [], alts := [], laidByText := true, laidKinds := [.data, .data, .data, .data, .sentinel, .sentinel, .pinned], laidTests := true, laidLooks := .later }
def ArithErrsCardSaid : Prop := Claim7.holds Tryz.pinned (.plain (OpenSpec.ofChange arithErrsSpec)) arithErrsCard

/-- THE SECOND FORM's CARD OF 'conchlaw03.ArithValues'. -/
def arithValuesUptoCard : Claim7 := { stood := { row := arithValuesUptoRow, standIns := [], harness := (true, "a5c63b735f0707980e6a6b49a9b9466cb4e0ad6100d085c50bc295af36e29eb0"), looks := true }, kinds := [], alts := [], laidByText := true, laidKinds := [.data, .data, .data, .data, .sentinel, .sentinel, .pinned], laidTests := true, laidLooks := .later }
def ArithValuesUptoCardSaid : Prop := Claim7.holds Tryz.pinned (.plain (OpenSpec.upto arithValuesSpec)) arithValuesUptoCard

/-- THE SECOND FORM's CARD OF 'conchlaw03.ArithEvals'. -/
def arithEvalsUptoCard : Claim7 := { stood := { row := arithEvalsUptoRow, standIns := [], harness := (true, "a5c63b735f0707980e6a6b49a9b9466cb4e0ad6100d085c50bc295af36e29eb0"), looks := true }, kinds := [], alts := [], laidByText := true, laidKinds := [.data, .data, .data, .data, .sentinel, .sentinel, .pinned], laidTests := true, laidLooks := .later }
def ArithEvalsUptoCardSaid : Prop := Claim7.holds Tryz.pinned (.plain (OpenSpec.upto arithEvalsSpec)) arithEvalsUptoCard

/-- THE SECOND FORM's CARD OF 'conchlaw03.ArithBrackets'. -/
def arithBracketsUptoCard : Claim7 := { stood := { row := arithBracketsUptoRow, standIns := [], harness := (true, "a5c63b735f0707980e6a6b49a9b9466cb4e0ad6100d085c50bc295af36e29eb0"), looks := true }, kinds := [], alts := [], laidByText := true, laidKinds := [.data, .data, .data, .data, .sentinel, .sentinel, .pinned], laidTests := true, laidLooks := .later }
def ArithBracketsUptoCardSaid : Prop := Claim7.holds Tryz.pinned (.plain (OpenSpec.upto arithBracketsSpec)) arithBracketsUptoCard

/-- THE SECOND FORM's CARD OF 'conchlaw03.ArithSums'. -/
def arithSumsUptoCard : Claim7 := { stood := { row := arithSumsUptoRow, standIns := [], harness := (true, "a5c63b735f0707980e6a6b49a9b9466cb4e0ad6100d085c50bc295af36e29eb0"), looks := true }, kinds := [], alts := [], laidByText := true, laidKinds := [.data, .data, .data, .data, .sentinel, .sentinel, .pinned], laidTests := true, laidLooks := .later }
def ArithSumsUptoCardSaid : Prop := Claim7.holds Tryz.pinned (.plain (OpenSpec.upto arithSumsSpec)) arithSumsUptoCard

/-- THE SECOND FORM's CARD OF 'conchlaw03.ArithSets'. -/
def arithSetsUptoCard : Claim7 := { stood := { row := arithSetsUptoRow, standIns := [], harness := (true, "a5c63b735f0707980e6a6b49a9b9466cb4e0ad6100d085c50bc295af36e29eb0"), looks := true }, kinds := [], alts := [], laidByText := true, laidKinds := [.data, .data, .data, .data, .sentinel, .sentinel, .pinned], laidTests := true, laidLooks := .later }
def ArithSetsUptoCardSaid : Prop := Claim7.holds Tryz.pinned (.plain (OpenSpec.upto arithSetsSpec)) arithSetsUptoCard

/-- THE SECOND FORM's CARD OF 'conchlaw03.ArithErrs'. -/
def arithErrsUptoCard : Claim7 := { stood := { row := arithErrsUptoRow, standIns := [], harness := (true, "a5c63b735f0707980e6a6b49a9b9466cb4e0ad6100d085c50bc295af36e29eb0"), looks := true }, kinds := [], alts := [], laidByText := true, laidKinds := [.data, .data, .data, .data, .sentinel, .sentinel, .pinned], laidTests := true, laidLooks := .later }
def ArithErrsUptoCardSaid : Prop := Claim7.holds Tryz.pinned (.plain (OpenSpec.upto arithErrsSpec)) arithErrsUptoCard
end Rows
end Go.Proofs.YtlbpeknncakfeaaGreatDoor
