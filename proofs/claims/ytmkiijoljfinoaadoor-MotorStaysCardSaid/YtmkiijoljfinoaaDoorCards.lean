/-
  DERIVED. GIVEN WITH THE SEED: THE CARDS: each row of YtmkiijoljfinoaaDoorRows.lean that lists a variable, with what it lists TIED to the program's text (the seventh form; the later family's looks); each row that meets fmt, with fmt's text TOLD by the authors' own Lean function (tested against real Go, not proved from fmt's source: count such statements apart). THE CARD IS WHAT COUNTS. Prove the row's statement (the work); the ties are given (YtmkiijoljfinoaaDoorTie.lean); close each card by the builder's one call (the guide's Derived/Test/ToyasCard.lean, 'card_holds'). Laid BY PROGRAM, IN A SANDBOX (cutbox-door.mjs). By AI agents, Wed Nov 11 2026. No macro, syntax, notation, axiom, sorry.
-/
import Derived.Test.YtmkiijoljfinoaaDoorRows
import GoSem.ClaimSeven
namespace Go.Proofs.YtmkiijoljfinoaaDoor
namespace Rows

/-- THE TIED CARD OF 'liftwelllaw09.MotorMoves'. -/
def motorMovesCard : Claim7 := { stood := { row := motorMovesRow, standIns := [], harness := (true, "254116aaadf6048e90e4f724c0a218d2cb7b8f6fd6504f1f2b6017b89303d41c"), looks := false }, kinds := [], alts := [], laidByText := true, laidKinds := [.data], laidTests := true, laidLooks := .later }
def MotorMovesCardSaid : Prop := Claim7.holds Tryd.pinned (.plain (OpenSpec.ofChange motorMovesSpec)) motorMovesCard

/-- THE TIED CARD OF 'liftwelllaw09.MotorGoes'. -/
def motorGoesCard : Claim7 := { stood := { row := motorGoesRow, standIns := [], harness := (true, "254116aaadf6048e90e4f724c0a218d2cb7b8f6fd6504f1f2b6017b89303d41c"), looks := false }, kinds := [], alts := [], laidByText := true, laidKinds := [.data], laidTests := true, laidLooks := .later }
def MotorGoesCardSaid : Prop := Claim7.holds Tryd.pinned (.plain (OpenSpec.ofChange motorGoesSpec)) motorGoesCard

/-- THE TIED CARD OF 'liftwelllaw09.MotorStays'. -/
def motorStaysCard : Claim7 := { stood := { row := motorStaysRow, standIns := [], harness := (true, "254116aaadf6048e90e4f724c0a218d2cb7b8f6fd6504f1f2b6017b89303d41c"), looks := false }, kinds := [], alts := [], laidByText := true, laidKinds := [.data], laidTests := true, laidLooks := .later }
def MotorStaysCardSaid : Prop := Claim7.holds Tryd.pinned (.plain (OpenSpec.ofChange motorStaysSpec)) motorStaysCard

/-- THE TIED CARD OF 'liftwelllaw09.MotorNames'. -/
def motorNamesCard : Claim7 := { stood := { row := motorNamesRow, standIns := [], harness := (true, "254116aaadf6048e90e4f724c0a218d2cb7b8f6fd6504f1f2b6017b89303d41c"), looks := false }, kinds := [], alts := [], laidByText := true, laidKinds := [.data], laidTests := true, laidLooks := .later }
def MotorNamesCardSaid : Prop := Claim7.holds Tryd.pinned (.plain (OpenSpec.ofChange motorNamesSpec)) motorNamesCard

/-- THE SECOND FORM's CARD OF 'liftwelllaw09.MotorMoves'. -/
def motorMovesUptoCard : Claim7 := { stood := { row := motorMovesUptoRow, standIns := [], harness := (true, "254116aaadf6048e90e4f724c0a218d2cb7b8f6fd6504f1f2b6017b89303d41c"), looks := false }, kinds := [], alts := [], laidByText := true, laidKinds := [.data], laidTests := true, laidLooks := .later }
def MotorMovesUptoCardSaid : Prop := Claim7.holds Tryd.pinned (.plain (OpenSpec.upto motorMovesSpec)) motorMovesUptoCard

/-- THE SECOND FORM's CARD OF 'liftwelllaw09.MotorGoes'. -/
def motorGoesUptoCard : Claim7 := { stood := { row := motorGoesUptoRow, standIns := [], harness := (true, "254116aaadf6048e90e4f724c0a218d2cb7b8f6fd6504f1f2b6017b89303d41c"), looks := false }, kinds := [], alts := [], laidByText := true, laidKinds := [.data], laidTests := true, laidLooks := .later }
def MotorGoesUptoCardSaid : Prop := Claim7.holds Tryd.pinned (.plain (OpenSpec.upto motorGoesSpec)) motorGoesUptoCard

/-- THE SECOND FORM's CARD OF 'liftwelllaw09.MotorStays'. -/
def motorStaysUptoCard : Claim7 := { stood := { row := motorStaysUptoRow, standIns := [], harness := (true, "254116aaadf6048e90e4f724c0a218d2cb7b8f6fd6504f1f2b6017b89303d41c"), looks := false }, kinds := [], alts := [], laidByText := true, laidKinds := [.data], laidTests := true, laidLooks := .later }
def MotorStaysUptoCardSaid : Prop := Claim7.holds Tryd.pinned (.plain (OpenSpec.upto motorStaysSpec)) motorStaysUptoCard

/-- THE SECOND FORM's CARD OF 'liftwelllaw09.MotorNames'. -/
def motorNamesUptoCard : Claim7 := { stood := { row := motorNamesUptoRow, standIns := [], harness := (true, "254116aaadf6048e90e4f724c0a218d2cb7b8f6fd6504f1f2b6017b89303d41c"), looks := false }, kinds := [], alts := [], laidByText := true, laidKinds := [.data], laidTests := true, laidLooks := .later }
def MotorNamesUptoCardSaid : Prop := Claim7.holds Tryd.pinned (.plain (OpenSpec.upto motorNamesSpec)) motorNamesUptoCard
end Rows
end Go.Proofs.YtmkiijoljfinoaaDoor
