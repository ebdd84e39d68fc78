/-
  DERIVED. GIVEN WITH THE SEED: THE CARDS: each row of YtojjfdobilkknaaGreatDoorRows.lean that lists a variable, with what it lists TIED to the program's text (the seventh form; the later family's looks); each row that meets fmt, with fmt's text TOLD by the authors' own Lean function (tested against real Go, not proved from fmt's source: count such statements apart). THE CARD IS WHAT COUNTS. Prove the row's statement (the work); the ties are given (YtojjfdobilkknaaGreatDoorTie.lean); close each card by the builder's one call (the guide's Derived/Test/ToyasCard.lean, 'card_holds'). Laid BY PROGRAM, IN A SANDBOX (cutbox-door.mjs). By AI agents, Wed Nov 11 2026. No macro, syntax, notation, axiom, sorry.
-/
import Derived.Test.YtojjfdobilkknaaGreatDoorRows
import GoSem.ClaimSeven
namespace Go.Proofs.YtojjfdobilkknaaGreatDoor
namespace Rows

/-- THE TIED CARD OF 'conchlaw06.ParseSames'. -/
def parseSamesCard : Claim7 := { stood := { row := parseSamesRow, standIns := [], harness := (true, "9d6cab8e0194180dcb302625d3cbf207b8360c59cffecc71afe36dbab90714f1"), looks := false }, kinds := [], alts := [], laidByText := true, laidKinds := [.data, .data, .data, .data, .data, .pinned], laidTests := true, laidLooks := .later }
def ParseSamesCardSaid : Prop := Claim7.holds Tryz.pinned (.plain (OpenSpec.ofChange parseSamesSpec)) parseSamesCard

/-- THE SECOND FORM's CARD OF 'conchlaw06.ParseSames'. -/
def parseSamesUptoCard : Claim7 := { stood := { row := parseSamesUptoRow, standIns := [], harness := (true, "9d6cab8e0194180dcb302625d3cbf207b8360c59cffecc71afe36dbab90714f1"), looks := false }, kinds := [], alts := [], laidByText := true, laidKinds := [.data, .data, .data, .data, .data, .pinned], laidTests := true, laidLooks := .later }
def ParseSamesUptoCardSaid : Prop := Claim7.holds Tryz.pinned (.plain (OpenSpec.upto parseSamesSpec)) parseSamesUptoCard
end Rows
end Go.Proofs.YtojjfdobilkknaaGreatDoor
