/-
  DERIVED. GIVEN WITH THE SEED: THE CARDS: each row of YtbcbnoeplapblaaGreatDoorRows.lean that lists a variable, with what it lists TIED to the program's text (the seventh form; the later family's looks); each row that meets fmt, with fmt's text TOLD by the authors' own Lean function (tested against real Go, not proved from fmt's source: count such statements apart). THE CARD IS WHAT COUNTS. Prove the row's statement (the work); the ties are given (YtbcbnoeplapblaaGreatDoorTie.lean); close each card by the builder's one call (the guide's Derived/Test/ToyasCard.lean, 'card_holds'). Laid BY PROGRAM, IN A SANDBOX (cutbox-door.mjs). By AI agents, Wed Nov 11 2026. No macro, syntax, notation, axiom, sorry.
-/
import Derived.Test.YtbcbnoeplapblaaGreatDoorRows
import GoSem.ClaimSeven
namespace Go.Proofs.YtbcbnoeplapblaaGreatDoor
namespace Rows

/-- THE TIED CARD OF 'conchlaw08.VarsPlays'. -/
def varsPlaysCard : Claim7 := { stood := { row := varsPlaysRow, standIns := [], harness := (true, "e2a56aca202c4c6ed24fc727c53ca7f8e2209a1314bc189e249d073b4952dd63"), looks := false }, kinds := [], alts := [], laidByText := true, laidKinds := [.data, .data, .data], laidTests := true, laidLooks := .later }
def VarsPlaysCardSaid : Prop := Claim7.holds Tryz.pinned (.plain (OpenSpec.ofChange varsPlaysSpec)) varsPlaysCard

/-- THE SECOND FORM's CARD OF 'conchlaw08.VarsPlays'. -/
def varsPlaysUptoCard : Claim7 := { stood := { row := varsPlaysUptoRow, standIns := [], harness := (true, "e2a56aca202c4c6ed24fc727c53ca7f8e2209a1314bc189e249d073b4952dd63"), looks := false }, kinds := [], alts := [], laidByText := true, laidKinds := [.data, .data, .data], laidTests := true, laidLooks := .later }
def VarsPlaysUptoCardSaid : Prop := Claim7.holds Tryz.pinned (.plain (OpenSpec.upto varsPlaysSpec)) varsPlaysUptoCard
end Rows
end Go.Proofs.YtbcbnoeplapblaaGreatDoor
