/-
  DERIVED. GIVEN WITH THE SEED: THE CARDS: each row of YtnamineofpeahaaGreatDoorRows.lean that lists a variable, with what it lists TIED to the program's text (the seventh form; the later family's looks); each row that meets fmt, with fmt's text TOLD by the authors' own Lean function (tested against real Go, not proved from fmt's source: count such statements apart). THE CARD IS WHAT COUNTS. Prove the row's statement (the work); the ties are given (YtnamineofpeahaaGreatDoorTie.lean); close each card by the builder's one call (the guide's Derived/Test/ToyasCard.lean, 'card_holds'). Laid BY PROGRAM, IN A SANDBOX (cutbox-door.mjs). By AI agents, Wed Nov 11 2026. No macro, syntax, notation, axiom, sorry.
-/
import Derived.Test.YtnamineofpeahaaGreatDoorRows
import GoSem.ClaimSeven
namespace Go.Proofs.YtnamineofpeahaaGreatDoor
namespace Rows

/-- THE TIED CARD OF 'conchlaw06.ParseLines'. -/
def parseLinesCard : Claim7 := { stood := { row := parseLinesRow, standIns := [], harness := (true, "56e110a209c93bcb59fa1d01a3d691cc3306aff6419ce17fadacbccb918fd690"), looks := false }, kinds := [], alts := [], laidByText := true, laidKinds := [.data, .data, .data, .data, .data, .pinned], laidTests := true, laidLooks := .later }
def ParseLinesCardSaid : Prop := Claim7.holds Tryz.pinned (.plain (OpenSpec.ofChange parseLinesSpec)) parseLinesCard

/-- THE TIED CARD OF 'conchlaw06.ParseSimple'. -/
def parseSimpleCard : Claim7 := { stood := { row := parseSimpleRow, standIns := [], harness := (true, "56e110a209c93bcb59fa1d01a3d691cc3306aff6419ce17fadacbccb918fd690"), looks := false }, kinds := [], alts := [], laidByText := true, laidKinds := [.data, .data, .data, .data, .data, .pinned], laidTests := true, laidLooks := .later }
def ParseSimpleCardSaid : Prop := Claim7.holds Tryz.pinned (.plain (OpenSpec.ofChange parseSimpleSpec)) parseSimpleCard

/-- THE TIED CARD OF 'conchlaw06.ParsePlaces'. -/
def parsePlacesCard : Claim7 := { stood := { row := parsePlacesRow, standIns := [], harness := (true, "56e110a209c93bcb59fa1d01a3d691cc3306aff6419ce17fadacbccb918fd690"), looks := false }, kinds := [], alts := [], laidByText := true, laidKinds := [.data, .data, .data, .data, .data, .pinned], laidTests := true, laidLooks := .later }
def ParsePlacesCardSaid : Prop := Claim7.holds Tryz.pinned (.plain (OpenSpec.ofChange parsePlacesSpec)) parsePlacesCard

/-- THE TIED CARD OF 'conchlaw06.ParseShaped'. -/
def parseShapedCard : Claim7 := { stood := { row := parseShapedRow, standIns := [], harness := (true, "56e110a209c93bcb59fa1d01a3d691cc3306aff6419ce17fadacbccb918fd690"), looks := false }, kinds := [], alts := [], laidByText := true, laidKinds := [.data, .data, .data, .data, .data, .pinned], laidTests := true, laidLooks := .later }
def ParseShapedCardSaid : Prop := Claim7.holds Tryz.pinned (.plain (OpenSpec.ofChange parseShapedSpec)) parseShapedCard

/-- THE SECOND FORM's CARD OF 'conchlaw06.ParseLines'. -/
def parseLinesUptoCard : Claim7 := { stood := { row := parseLinesUptoRow, standIns := [], harness := (true, "56e110a209c93bcb59fa1d01a3d691cc3306aff6419ce17fadacbccb918fd690"), looks := false }, kinds := [], alts := [], laidByText := true, laidKinds := [.data, .data, .data, .data, .data, .pinned], laidTests := true, laidLooks := .later }
def ParseLinesUptoCardSaid : Prop := Claim7.holds Tryz.pinned (.plain (OpenSpec.upto parseLinesSpec)) parseLinesUptoCard

/-- THE SECOND FORM's CARD OF 'conchlaw06.ParseSimple'. -/
def parseSimpleUptoCard : Claim7 := { stood := { row := parseSimpleUptoRow, standIns := [], harness := (true, "56e110a209c93bcb59fa1d01a3d691cc3306aff6419ce17fadacbccb918fd690"), looks := false }, kinds := [], alts := [], laidByText := true, laidKinds := [.data, .data, .data, .data, .data, .pinned], laidTests := true, laidLooks := .later }
def ParseSimpleUptoCardSaid : Prop := Claim7.holds Tryz.pinned (.plain (OpenSpec.upto parseSimpleSpec)) parseSimpleUptoCard

/-- THE SECOND FORM's CARD OF 'conchlaw06.ParsePlaces'. -/
def parsePlacesUptoCard : Claim7 := { stood := { row := parsePlacesUptoRow, standIns := [], harness := (true, "56e110a209c93bcb59fa1d01a3d691cc3306aff6419ce17fadacbccb918fd690"), looks := false }, kinds := [], alts := [], laidByText := true, laidKinds := [.data, .data, .data, .data, .data, .pinned], laidTests := true, laidLooks := .later }
def ParsePlacesUptoCardSaid : Prop := Claim7.holds Tryz.pinned (.plain (OpenSpec.upto parsePlacesSpec)) parsePlacesUptoCard

/-- THE SECOND FORM's CARD OF 'conchlaw06.ParseShaped'. -/
def parseShapedUptoCard : Claim7 := { stood := { row := parseShapedUptoRow, standIns := [], harness := (true, "56e110a209c93bcb59fa1d01a3d691cc3306aff6419ce17fadacbccb918fd690"), looks := false }, kinds := [], alts := [], laidByText := true, laidKinds := [.data, .data, .data, .data, .data, .pinned], laidTests := true, laidLooks := .later }
def ParseShapedUptoCardSaid : Prop := Claim7.holds Tryz.pinned (.plain (OpenSpec.upto parseShapedSpec)) parseShapedUptoCard
end Rows
end Go.Proofs.YtnamineofpeahaaGreatDoor
