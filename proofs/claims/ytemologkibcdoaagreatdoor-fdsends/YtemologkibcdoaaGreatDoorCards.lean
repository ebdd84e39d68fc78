/-
  DERIVED. GIVEN WITH THE SEED: THE CARDS: each row of YtemologkibcdoaaGreatDoorRows.lean that lists a variable, with what it lists TIED to the program's text (the seventh form; the later family's looks); each row that meets fmt, with fmt's text TOLD by the authors' own Lean function (tested against real Go, not proved from fmt's source: count such statements apart). THE CARD IS WHAT COUNTS. Prove the row's statement (the work); the ties are given (YtemologkibcdoaaGreatDoorTie.lean); close each card by the builder's one call (the guide's Derived/Test/ToyasCard.lean, 'card_holds'). Laid BY PROGRAM, IN A SANDBOX (cutbox-door.mjs). By AI agents, Wed Nov 11 2026. No macro, syntax, notation, axiom, sorry.
-/
import Derived.Test.YtemologkibcdoaaGreatDoorRows
import GoSem.ClaimSeven
namespace Go.Proofs.YtemologkibcdoaaGreatDoor
namespace Rows

/-- THE TIED CARD OF 'conchlaw16.FdsEnds'. -/
def fdsEndsCard : Claim7 := { stood := { row := fdsEndsRow, standIns := [], harness := (true, "c49e1b8b4992576123f67ca349cb0f32923ea247fc7cf5604bf594bfe02d1811"), looks := false }, kinds := [], alts := [], laidByText := true, laidKinds := [.data, .pinned], laidTests := true, laidLooks := .later }
def FdsEndsCardSaid : Prop := Claim7.holds Tryz.pinned (.plain (OpenSpec.ofChange fdsEndsSpec)) fdsEndsCard

/-- THE TIED CARD OF 'conchlaw16.FdsShare'. -/
def fdsShareCard : Claim7 := { stood := { row := fdsShareRow, standIns := [], harness := (true, "c49e1b8b4992576123f67ca349cb0f32923ea247fc7cf5604bf594bfe02d1811"), looks := false }, kinds := [], alts := [], laidByText := true, laidKinds := [.data, .pinned], laidTests := true, laidLooks := .later }
def FdsShareCardSaid : Prop := Claim7.holds Tryz.pinned (.plain (OpenSpec.ofChange fdsShareSpec)) fdsShareCard

/-- THE TIED CARD OF 'conchlaw16.FdsNil'. -/
def fdsNilCard : Claim7 := { stood := { row := fdsNilRow, standIns := [], harness := (true, "c49e1b8b4992576123f67ca349cb0f32923ea247fc7cf5604bf594bfe02d1811"), looks := false }, kinds := [], alts := [], laidByText := true, laidKinds := [.data, .pinned], laidTests := true, laidLooks := .later }
def FdsNilCardSaid : Prop := Claim7.holds Tryz.pinned (.plain (OpenSpec.ofChange fdsNilSpec)) fdsNilCard

/-- THE SECOND FORM's CARD OF 'conchlaw16.FdsEnds'. -/
def fdsEndsUptoCard : Claim7 := { stood := { row := fdsEndsUptoRow, standIns := [], harness := (true, "c49e1b8b4992576123f67ca349cb0f32923ea247fc7cf5604bf594bfe02d1811"), looks := false }, kinds := [], alts := [], laidByText := true, laidKinds := [.data, .pinned], laidTests := true, laidLooks := .later }
def FdsEndsUptoCardSaid : Prop := Claim7.holds Tryz.pinned (.plain (OpenSpec.upto fdsEndsSpec)) fdsEndsUptoCard

/-- THE SECOND FORM's CARD OF 'conchlaw16.FdsShare'. -/
def fdsShareUptoCard : Claim7 := { stood := { row := fdsShareUptoRow, standIns := [], harness := (true, "c49e1b8b4992576123f67ca349cb0f32923ea247fc7cf5604bf594bfe02d1811"), looks := false }, kinds := [], alts := [], laidByText := true, laidKinds := [.data, .pinned], laidTests := true, laidLooks := .later }
def FdsShareUptoCardSaid : Prop := Claim7.holds Tryz.pinned (.plain (OpenSpec.upto fdsShareSpec)) fdsShareUptoCard

/-- THE SECOND FORM's CARD OF 'conchlaw16.FdsNil'. -/
def fdsNilUptoCard : Claim7 := { stood := { row := fdsNilUptoRow, standIns := [], harness := (true, "c49e1b8b4992576123f67ca349cb0f32923ea247fc7cf5604bf594bfe02d1811"), looks := false }, kinds := [], alts := [], laidByText := true, laidKinds := [.data, .pinned], laidTests := true, laidLooks := .later }
def FdsNilUptoCardSaid : Prop := Claim7.holds Tryz.pinned (.plain (OpenSpec.upto fdsNilSpec)) fdsNilUptoCard
end Rows
end Go.Proofs.YtemologkibcdoaaGreatDoor
