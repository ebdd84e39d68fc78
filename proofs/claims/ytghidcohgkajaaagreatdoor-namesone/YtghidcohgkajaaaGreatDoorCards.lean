/-
  DERIVED. GIVEN WITH THE SEED: THE CARDS: each row of YtghidcohgkajaaaGreatDoorRows.lean that lists a variable, with what it lists TIED to the program's text (the seventh form; the later family's looks); each row that meets fmt, with fmt's text TOLD by the authors' own Lean function (tested against real Go, not proved from fmt's source: count such statements apart). THE CARD IS WHAT COUNTS. Prove the row's statement (the work); the ties are given (YtghidcohgkajaaaGreatDoorTie.lean); close each card by the builder's one call (the guide's Derived/Test/ToyasCard.lean, 'card_holds'). Laid BY PROGRAM, IN A SANDBOX (cutbox-door.mjs). By AI agents, Wed Nov 11 2026. No macro, syntax, notation, axiom, sorry.
-/
import Derived.Test.YtghidcohgkajaaaGreatDoorRows
import GoSem.ClaimSeven
namespace Go.Proofs.YtghidcohgkajaaaGreatDoor
namespace Rows

/-- THE TIED CARD OF 'conchlaw13.NamesPlays'. -/
def namesPlaysCard : Claim7 := { stood := { row := namesPlaysRow, standIns := [], harness := (true, "84ce103cce5f20ed29a5528eac132c353ec37ae240d9203f8616242578186c5e"), looks := true }, kinds := [], alts := [], laidByText := true, laidKinds := [.data, .data, .data, .data, .pinned], laidTests := true, laidLooks := .later }
def NamesPlaysCardSaid : Prop := Claim7.holds Tryz.pinned (.plain (OpenSpec.ofChange namesPlaysSpec)) namesPlaysCard

/-- THE TIED CARD OF 'conchlaw13.NamesAsks'. -/
def namesAsksCard : Claim7 := { stood := { row := namesAsksRow, standIns := [], harness := (true, "84ce103cce5f20ed29a5528eac132c353ec37ae240d9203f8616242578186c5e"), looks := true }, kinds := [], alts := [], laidByText := true, laidKinds := [.data, .pinned], laidTests := true, laidLooks := .later }
def NamesAsksCardSaid : Prop := Claim7.holds Tryz.pinned (.plain (OpenSpec.ofChange namesAsksSpec)) namesAsksCard

/-- THE TIED CARD OF 'conchlaw13.NamesTree'. -/
def namesTreeCard : Claim7 := { stood := { row := namesTreeRow, standIns := [], harness := (true, "84ce103cce5f20ed29a5528eac132c353ec37ae240d9203f8616242578186c5e"), looks := true }, kinds := [], alts := [], laidByText := true, laidKinds := [.data, .pinned], laidTests := true, laidLooks := .later }
def NamesTreeCardSaid : Prop := Claim7.holds Tryz.pinned (.plain (OpenSpec.ofChange namesTreeSpec)) namesTreeCard

/-- THE TIED CARD OF 'conchlaw13.NamesOne'. -/
def namesOneCard : Claim7 := { stood := { row := namesOneRow, standIns := [], harness := (true, "84ce103cce5f20ed29a5528eac132c353ec37ae240d9203f8616242578186c5e"), looks := true }, kinds := [], alts := [], laidByText := true, laidKinds := [.data, .data, .data, .data, .pinned], laidTests := true, laidLooks := .later }
def NamesOneCardSaid : Prop := Claim7.holds Tryz.pinned (.plain (OpenSpec.ofChange namesOneSpec)) namesOneCard

/-- THE TIED CARD OF 'conchlaw13.NamesMoves'. -/
def namesMovesCard : Claim7 := { stood := { row := namesMovesRow, standIns := [], harness := (true, "84ce103cce5f20ed29a5528eac132c353ec37ae240d9203f8616242578186c5e"), looks := true }, kinds := [], alts := [], laidByText := true, laidKinds := [.data, .data, .data, .data, .pinned], laidTests := true, laidLooks := .later }
def NamesMovesCardSaid : Prop := Claim7.holds Tryz.pinned (.plain (OpenSpec.ofChange namesMovesSpec)) namesMovesCard

/-- THE TIED CARD OF 'conchlaw13.NamesNil'. -/
def namesNilCard : Claim7 := { stood := { row := namesNilRow, standIns := [], harness := (true, "84ce103cce5f20ed29a5528eac132c353ec37ae240d9203f8616242578186c5e"), looks := true }, kinds := [], alts := [], laidByText := true, laidKinds := [.data, .data, .data, .data, .pinned], laidTests := true, laidLooks := .later }
def NamesNilCardSaid : Prop := Claim7.holds Tryz.pinned (.plain (OpenSpec.ofChange namesNilSpec)) namesNilCard

/-- THE SECOND FORM's CARD OF 'conchlaw13.NamesPlays'. -/
def namesPlaysUptoCard : Claim7 := { stood := { row := namesPlaysUptoRow, standIns := [], harness := (true, "84ce103cce5f20ed29a5528eac132c353ec37ae240d9203f8616242578186c5e"), looks := true }, kinds := [], alts := [], laidByText := true, laidKinds := [.data, .data, .data, .data, .pinned], laidTests := true, laidLooks := .later }
def NamesPlaysUptoCardSaid : Prop := Claim7.holds Tryz.pinned (.plain (OpenSpec.upto namesPlaysSpec)) namesPlaysUptoCard

/-- THE SECOND FORM's CARD OF 'conchlaw13.NamesAsks'. -/
def namesAsksUptoCard : Claim7 := { stood := { row := namesAsksUptoRow, standIns := [], harness := (true, "84ce103cce5f20ed29a5528eac132c353ec37ae240d9203f8616242578186c5e"), looks := true }, kinds := [], alts := [], laidByText := true, laidKinds := [.data, .pinned], laidTests := true, laidLooks := .later }
def NamesAsksUptoCardSaid : Prop := Claim7.holds Tryz.pinned (.plain (OpenSpec.upto namesAsksSpec)) namesAsksUptoCard

/-- THE SECOND FORM's CARD OF 'conchlaw13.NamesTree'. -/
def namesTreeUptoCard : Claim7 := { stood := { row := namesTreeUptoRow, standIns := [], harness := (true, "84ce103cce5f20ed29a5528eac132c353ec37ae240d9203f8616242578186c5e"), looks := true }, kinds := [], alts := [], laidByText := true, laidKinds := [.data, .pinned], laidTests := true, laidLooks := .later }
def NamesTreeUptoCardSaid : Prop := Claim7.holds Tryz.pinned (.plain (OpenSpec.upto namesTreeSpec)) namesTreeUptoCard

/-- THE SECOND FORM's CARD OF 'conchlaw13.NamesOne'. -/
def namesOneUptoCard : Claim7 := { stood := { row := namesOneUptoRow, standIns := [], harness := (true, "84ce103cce5f20ed29a5528eac132c353ec37ae240d9203f8616242578186c5e"), looks := true }, kinds := [], alts := [], laidByText := true, laidKinds := [.data, .data, .data, .data, .pinned], laidTests := true, laidLooks := .later }
def NamesOneUptoCardSaid : Prop := Claim7.holds Tryz.pinned (.plain (OpenSpec.upto namesOneSpec)) namesOneUptoCard

/-- THE SECOND FORM's CARD OF 'conchlaw13.NamesMoves'. -/
def namesMovesUptoCard : Claim7 := { stood := { row := namesMovesUptoRow, standIns := [], harness := (true, "84ce103cce5f20ed29a5528eac132c353ec37ae240d9203f8616242578186c5e"), looks := true }, kinds := [], alts := [], laidByText := true, laidKinds := [.data, .data, .data, .data, .pinned], laidTests := true, laidLooks := .later }
def NamesMovesUptoCardSaid : Prop := Claim7.holds Tryz.pinned (.plain (OpenSpec.upto namesMovesSpec)) namesMovesUptoCard

/-- THE SECOND FORM's CARD OF 'conchlaw13.NamesNil'. -/
def namesNilUptoCard : Claim7 := { stood := { row := namesNilUptoRow, standIns := [], harness := (true, "84ce103cce5f20ed29a5528eac132c353ec37ae240d9203f8616242578186c5e"), looks := true }, kinds := [], alts := [], laidByText := true, laidKinds := [.data, .data, .data, .data, .pinned], laidTests := true, laidLooks := .later }
def NamesNilUptoCardSaid : Prop := Claim7.holds Tryz.pinned (.plain (OpenSpec.upto namesNilSpec)) namesNilUptoCard
end Rows
end Go.Proofs.YtghidcohgkajaaaGreatDoor
