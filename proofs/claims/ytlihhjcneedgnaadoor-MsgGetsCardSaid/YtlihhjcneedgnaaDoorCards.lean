/-
  DERIVED. GIVEN WITH THE SEED: THE CARDS: each row of YtlihhjcneedgnaaDoorRows.lean that lists a variable, with what it lists TIED to the program's text (the seventh form; the later family's looks); each row that meets fmt, with fmt's text TOLD by the authors' own Lean function (tested against real Go, not proved from fmt's source: count such statements apart). THE CARD IS WHAT COUNTS. Prove the row's statement (the work); the ties are given (YtlihhjcneedgnaaDoorTie.lean); close each card by the builder's one call (the guide's Derived/Test/ToyasCard.lean, 'card_holds'). Laid BY PROGRAM, IN A SANDBOX (cutbox-door.mjs). By AI agents, Wed Nov 11 2026. No macro, syntax, notation, axiom, sorry.
-/
import Derived.Test.YtlihhjcneedgnaaDoorRows
import GoSem.ClaimSeven
namespace Go.Proofs.YtlihhjcneedgnaaDoor
namespace Rows

/-- THE TIED CARD OF 'liftwelllaw04.MsgPuts'. -/
def msgPutsCard : Claim7 := { stood := { row := msgPutsRow, standIns := [], harness := (true, "e4114b9a733f3474efe3b9a1367fc6e4ea4fc987156810d58b92a9f0e703a6fb"), looks := false }, kinds := [], alts := [], laidByText := true, laidKinds := [.data], laidTests := true, laidLooks := .later }
def MsgPutsCardSaid : Prop := Claim7.holds Tryd.pinned (.plain (OpenSpec.ofChange msgPutsSpec)) msgPutsCard

/-- THE TIED CARD OF 'liftwelllaw04.MsgGets'. -/
def msgGetsCard : Claim7 := { stood := { row := msgGetsRow, standIns := [], harness := (true, "e4114b9a733f3474efe3b9a1367fc6e4ea4fc987156810d58b92a9f0e703a6fb"), looks := false }, kinds := [], alts := [], laidByText := true, laidKinds := [.data], laidTests := true, laidLooks := .later }
def MsgGetsCardSaid : Prop := Claim7.holds Tryd.pinned (.plain (OpenSpec.ofChange msgGetsSpec)) msgGetsCard

/-- THE TIED CARD OF 'liftwelllaw04.MsgBack'. -/
def msgBackCard : Claim7 := { stood := { row := msgBackRow, standIns := [], harness := (true, "e4114b9a733f3474efe3b9a1367fc6e4ea4fc987156810d58b92a9f0e703a6fb"), looks := false }, kinds := [], alts := [], laidByText := true, laidKinds := [.data], laidTests := true, laidLooks := .later }
def MsgBackCardSaid : Prop := Claim7.holds Tryd.pinned (.plain (OpenSpec.ofChange msgBackSpec)) msgBackCard

/-- THE TIED CARD OF 'liftwelllaw04.MsgNames'. -/
def msgNamesCard : Claim7 := { stood := { row := msgNamesRow, standIns := [], harness := (true, "e4114b9a733f3474efe3b9a1367fc6e4ea4fc987156810d58b92a9f0e703a6fb"), looks := false }, kinds := [], alts := [], laidByText := true, laidKinds := [.data], laidTests := true, laidLooks := .later }
def MsgNamesCardSaid : Prop := Claim7.holds Tryd.pinned (.plain (OpenSpec.ofChange msgNamesSpec)) msgNamesCard

/-- THE SECOND FORM's CARD OF 'liftwelllaw04.MsgPuts'. -/
def msgPutsUptoCard : Claim7 := { stood := { row := msgPutsUptoRow, standIns := [], harness := (true, "e4114b9a733f3474efe3b9a1367fc6e4ea4fc987156810d58b92a9f0e703a6fb"), looks := false }, kinds := [], alts := [], laidByText := true, laidKinds := [.data], laidTests := true, laidLooks := .later }
def MsgPutsUptoCardSaid : Prop := Claim7.holds Tryd.pinned (.plain (OpenSpec.upto msgPutsSpec)) msgPutsUptoCard

/-- THE SECOND FORM's CARD OF 'liftwelllaw04.MsgGets'. -/
def msgGetsUptoCard : Claim7 := { stood := { row := msgGetsUptoRow, standIns := [], harness := (true, "e4114b9a733f3474efe3b9a1367fc6e4ea4fc987156810d58b92a9f0e703a6fb"), looks := false }, kinds := [], alts := [], laidByText := true, laidKinds := [.data], laidTests := true, laidLooks := .later }
def MsgGetsUptoCardSaid : Prop := Claim7.holds Tryd.pinned (.plain (OpenSpec.upto msgGetsSpec)) msgGetsUptoCard

/-- THE SECOND FORM's CARD OF 'liftwelllaw04.MsgBack'. -/
def msgBackUptoCard : Claim7 := { stood := { row := msgBackUptoRow, standIns := [], harness := (true, "e4114b9a733f3474efe3b9a1367fc6e4ea4fc987156810d58b92a9f0e703a6fb"), looks := false }, kinds := [], alts := [], laidByText := true, laidKinds := [.data], laidTests := true, laidLooks := .later }
def MsgBackUptoCardSaid : Prop := Claim7.holds Tryd.pinned (.plain (OpenSpec.upto msgBackSpec)) msgBackUptoCard

/-- THE SECOND FORM's CARD OF 'liftwelllaw04.MsgNames'. -/
def msgNamesUptoCard : Claim7 := { stood := { row := msgNamesUptoRow, standIns := [], harness := (true, "e4114b9a733f3474efe3b9a1367fc6e4ea4fc987156810d58b92a9f0e703a6fb"), looks := false }, kinds := [], alts := [], laidByText := true, laidKinds := [.data], laidTests := true, laidLooks := .later }
def MsgNamesUptoCardSaid : Prop := Claim7.holds Tryd.pinned (.plain (OpenSpec.upto msgNamesSpec)) msgNamesUptoCard
end Rows
end Go.Proofs.YtlihhjcneedgnaaDoor
