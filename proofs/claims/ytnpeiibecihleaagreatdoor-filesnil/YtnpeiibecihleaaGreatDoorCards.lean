/-
  DERIVED. GIVEN WITH THE SEED: THE CARDS: each row of YtnpeiibecihleaaGreatDoorRows.lean that lists a variable, with what it lists TIED to the program's text (the seventh form; the later family's looks); each row that meets fmt, with fmt's text TOLD by the authors' own Lean function (tested against real Go, not proved from fmt's source: count such statements apart). THE CARD IS WHAT COUNTS. Prove the row's statement (the work); the ties are given (YtnpeiibecihleaaGreatDoorTie.lean); close each card by the builder's one call (the guide's Derived/Test/ToyasCard.lean, 'card_holds'). Laid BY PROGRAM, IN A SANDBOX (cutbox-door.mjs). By AI agents, Wed Nov 11 2026. No macro, syntax, notation, axiom, sorry.
-/
import Derived.Test.YtnpeiibecihleaaGreatDoorRows
import GoSem.ClaimSeven
namespace Go.Proofs.YtnpeiibecihleaaGreatDoor
namespace Rows

/-- THE TIED CARD OF 'conchlaw14.FilesPlays'. -/
def filesPlaysCard : Claim7 := { stood := { row := filesPlaysRow, standIns := [], harness := (true, "bd1c5b44bc731febe5f4426e5055139de030a297a6e78ab0519bf356b14ca975"), looks := false }, kinds := [], alts := [], laidByText := true, laidKinds := [.data, .data, .data, .data, .pinned], laidTests := true, laidLooks := .later }
def FilesPlaysCardSaid : Prop := Claim7.holds Tryz.pinned (.plain (OpenSpec.ofChange filesPlaysSpec)) filesPlaysCard

/-- THE TIED CARD OF 'conchlaw14.FilesPass'. -/
def filesPassCard : Claim7 := { stood := { row := filesPassRow, standIns := [], harness := (true, "bd1c5b44bc731febe5f4426e5055139de030a297a6e78ab0519bf356b14ca975"), looks := false }, kinds := [], alts := [], laidByText := true, laidKinds := [.data, .pinned], laidTests := true, laidLooks := .later }
def FilesPassCardSaid : Prop := Claim7.holds Tryz.pinned (.plain (OpenSpec.ofChange filesPassSpec)) filesPassCard

/-- THE TIED CARD OF 'conchlaw14.FilesStays'. -/
def filesStaysCard : Claim7 := { stood := { row := filesStaysRow, standIns := [], harness := (true, "bd1c5b44bc731febe5f4426e5055139de030a297a6e78ab0519bf356b14ca975"), looks := false }, kinds := [], alts := [], laidByText := true, laidKinds := [.data, .pinned], laidTests := true, laidLooks := .later }
def FilesStaysCardSaid : Prop := Claim7.holds Tryz.pinned (.plain (OpenSpec.ofChange filesStaysSpec)) filesStaysCard

/-- THE TIED CARD OF 'conchlaw14.FilesEnds'. -/
def filesEndsCard : Claim7 := { stood := { row := filesEndsRow, standIns := [], harness := (true, "bd1c5b44bc731febe5f4426e5055139de030a297a6e78ab0519bf356b14ca975"), looks := false }, kinds := [], alts := [], laidByText := true, laidKinds := [.data, .pinned], laidTests := true, laidLooks := .later }
def FilesEndsCardSaid : Prop := Claim7.holds Tryz.pinned (.plain (OpenSpec.ofChange filesEndsSpec)) filesEndsCard

/-- THE TIED CARD OF 'conchlaw14.FilesNil'. -/
def filesNilCard : Claim7 := { stood := { row := filesNilRow, standIns := [], harness := (true, "bd1c5b44bc731febe5f4426e5055139de030a297a6e78ab0519bf356b14ca975"), looks := false }, kinds := [], alts := [], laidByText := true, laidKinds := [.data, .pinned], laidTests := true, laidLooks := .later }
def FilesNilCardSaid : Prop := Claim7.holds Tryz.pinned (.plain (OpenSpec.ofChange filesNilSpec)) filesNilCard

/-- THE SECOND FORM's CARD OF 'conchlaw14.FilesPlays'. -/
def filesPlaysUptoCard : Claim7 := { stood := { row := filesPlaysUptoRow, standIns := [], harness := (true, "bd1c5b44bc731febe5f4426e5055139de030a297a6e78ab0519bf356b14ca975"), looks := false }, kinds := [], alts := [], laidByText := true, laidKinds := [.data, .data, .data, .data, .pinned], laidTests := true, laidLooks := .later }
def FilesPlaysUptoCardSaid : Prop := Claim7.holds Tryz.pinned (.plain (OpenSpec.upto filesPlaysSpec)) filesPlaysUptoCard

/-- THE SECOND FORM's CARD OF 'conchlaw14.FilesPass'. -/
def filesPassUptoCard : Claim7 := { stood := { row := filesPassUptoRow, standIns := [], harness := (true, "bd1c5b44bc731febe5f4426e5055139de030a297a6e78ab0519bf356b14ca975"), looks := false }, kinds := [], alts := [], laidByText := true, laidKinds := [.data, .pinned], laidTests := true, laidLooks := .later }
def FilesPassUptoCardSaid : Prop := Claim7.holds Tryz.pinned (.plain (OpenSpec.upto filesPassSpec)) filesPassUptoCard

/-- THE SECOND FORM's CARD OF 'conchlaw14.FilesStays'. -/
def filesStaysUptoCard : Claim7 := { stood := { row := filesStaysUptoRow, standIns := [], harness := (true, "bd1c5b44bc731febe5f4426e5055139de030a297a6e78ab0519bf356b14ca975"), looks := false }, kinds := [], alts := [], laidByText := true, laidKinds := [.data, .pinned], laidTests := true, laidLooks := .later }
def FilesStaysUptoCardSaid : Prop := Claim7.holds Tryz.pinned (.plain (OpenSpec.upto filesStaysSpec)) filesStaysUptoCard

/-- THE SECOND FORM's CARD OF 'conchlaw14.FilesEnds'. -/
def filesEndsUptoCard : Claim7 := { stood := { row := filesEndsUptoRow, standIns := [], harness := (true, "bd1c5b44bc731febe5f4426e5055139de030a297a6e78ab0519bf356b14ca975"), looks := false }, kinds := [], alts := [], laidByText := true, laidKinds := [.data, .pinned], laidTests := true, laidLooks := .later }
def FilesEndsUptoCardSaid : Prop := Claim7.holds Tryz.pinned (.plain (OpenSpec.upto filesEndsSpec)) filesEndsUptoCard

/-- THE SECOND FORM's CARD OF 'conchlaw14.FilesNil'. -/
def filesNilUptoCard : Claim7 := { stood := { row := filesNilUptoRow, standIns := [], harness := (true, "bd1c5b44bc731febe5f4426e5055139de030a297a6e78ab0519bf356b14ca975"), looks := false }, kinds := [], alts := [], laidByText := true, laidKinds := [.data, .pinned], laidTests := true, laidLooks := .later }
def FilesNilUptoCardSaid : Prop := Claim7.holds Tryz.pinned (.plain (OpenSpec.upto filesNilSpec)) filesNilUptoCard
end Rows
end Go.Proofs.YtnpeiibecihleaaGreatDoor
