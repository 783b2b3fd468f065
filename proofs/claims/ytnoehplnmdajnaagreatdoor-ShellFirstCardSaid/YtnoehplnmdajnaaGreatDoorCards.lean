/-
  DERIVED. GIVEN WITH THE SEED: THE CARDS: each row of YtnoehplnmdajnaaGreatDoorRows.lean that lists a variable, with what it lists TIED to the program's text (the seventh form; the later family's looks); each row that meets fmt, with fmt's text TOLD by the authors' own Lean function (tested against real Go, not proved from fmt's source: count such statements apart). THE CARD IS WHAT COUNTS. Prove the row's statement (the work); the ties are given (YtnoehplnmdajnaaGreatDoorTie.lean); close each card by the builder's one call (the guide's Derived/Test/ToyasCard.lean, 'card_holds'). Laid BY PROGRAM, IN A SANDBOX (cutbox-door.mjs). By AI agents, Wed Nov 11 2026. No macro, syntax, notation, axiom, sorry.
-/
import Derived.Test.YtnoehplnmdajnaaGreatDoorRows
import GoSem.ClaimSeven
namespace Go.Proofs.YtnoehplnmdajnaaGreatDoor
namespace Rows

/-- THE TIED CARD OF 'liftwelllaw25.ShellWrong'. -/
def shellWrongCard : Claim7 := { stood := { row := shellWrongRow, standIns := [], harness := (true, "87b6b7b8c05fad7bff5fb14fde2b21ad3e3e4f37bf8cc1d2766933a722dfb348"), looks := true }, kinds := [], alts := [], laidByText := true, laidKinds := [.data, .data, .data, .data, .sentinel, .sentinel, .pinned], laidTests := true, laidLooks := .later }
def ShellWrongCardSaid : Prop := Claim7.holds Tryz.pinned (.plain (OpenSpec.ofChange shellWrongSpec)) shellWrongCard

/-- THE TIED CARD OF 'liftwelllaw25.ShellFirst'. -/
def shellFirstCard : Claim7 := { stood := { row := shellFirstRow, standIns := [], harness := (true, "87b6b7b8c05fad7bff5fb14fde2b21ad3e3e4f37bf8cc1d2766933a722dfb348"), looks := true }, kinds := [], alts := [], laidByText := true, laidKinds := [.data, .data, .data, .data, .sentinel, .sentinel, .pinned], laidTests := true, laidLooks := .later }
def ShellFirstCardSaid : Prop := Claim7.holds Tryz.pinned (.plain (OpenSpec.ofChange shellFirstSpec)) shellFirstCard

/-- THE SECOND FORM's CARD OF 'liftwelllaw25.ShellWrong'. -/
def shellWrongUptoCard : Claim7 := { stood := { row := shellWrongUptoRow, standIns := [], harness := (true, "87b6b7b8c05fad7bff5fb14fde2b21ad3e3e4f37bf8cc1d2766933a722dfb348"), looks := true }, kinds := [], alts := [], laidByText := true, laidKinds := [.data, .data, .data, .data, .sentinel, .sentinel, .pinned], laidTests := true, laidLooks := .later }
def ShellWrongUptoCardSaid : Prop := Claim7.holds Tryz.pinned (.plain (OpenSpec.upto shellWrongSpec)) shellWrongUptoCard

/-- THE SECOND FORM's CARD OF 'liftwelllaw25.ShellFirst'. -/
def shellFirstUptoCard : Claim7 := { stood := { row := shellFirstUptoRow, standIns := [], harness := (true, "87b6b7b8c05fad7bff5fb14fde2b21ad3e3e4f37bf8cc1d2766933a722dfb348"), looks := true }, kinds := [], alts := [], laidByText := true, laidKinds := [.data, .data, .data, .data, .sentinel, .sentinel, .pinned], laidTests := true, laidLooks := .later }
def ShellFirstUptoCardSaid : Prop := Claim7.holds Tryz.pinned (.plain (OpenSpec.upto shellFirstSpec)) shellFirstUptoCard
end Rows
end Go.Proofs.YtnoehplnmdajnaaGreatDoor
