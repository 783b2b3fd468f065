/-
  NARROWER THAN 'FOR EVERY INPUT', by the rows' own cells (each row's printed sentence says how): MsgPuts: laid · MsgGets: laid · MsgBack: laid · MsgNames: laid.
  DERIVED. THE GIVEN ROWS OF THIS SEAT. 4 by the template 'for every input the law returns true; each argument reads behind the call as it read before'; 0 by the template 'total and deterministic' (their statements: YtlihhjcneedgnaaDoorTotals.lean).
  GIVEN WITH THE SEED: the statements are not yours to turn. If you find one false, say at which input.
  Laid BY PROGRAM, IN A SANDBOX (cutbox-rows.mjs): the forced cells as the released guide's own fill.sh prints them over the translation 0ba6d4cad182e67d… (all of the seat's roots in one cut). By AI agents, Wed Nov 11 2026. No macro, syntax, notation, axiom, sorry.
-/
import Derived.Test.YtlihhjcneedgnaaDoorChecked
import GoSem.Claim
import GoSem.ClaimJoined
import GoSem.ClaimMapViews
import Derived.JoinedTies
import Derived.KernelRfl
namespace Go.Proofs.YtlihhjcneedgnaaDoor
/- THE CELL 'sum', in the pinned program and in every row, IS THE sha256 OF THE DUMP (.gsa) THAT YtlihhjcneedgnaaDoorProg.lean LOADS. Nothing in Lean hashes anything: it is a label: what it is worth is what the hold of that sum in a sandbox is worth. -/
noncomputable def Tryd.pinned : Pinned := { name := "ytlihhjcneedgnaadoor", sum := "0ba6d4cad182e67dc957f09468eefdf3865d95aa64cc2913956b9fec1b3baa42", checked := Tryd.checked }
namespace Rows
def none {H : Type} : Left H := { results := [], args := [] }

/- WHAT THE LISTED PACKAGE-LEVEL VARIABLES READ AS WHEN THE CALL BEGINS. Each datum BY PROGRAM (the guide's laid-datum.mjs) off the statement by which the dump's own 'gosem.cut.vars' lays the variable. In a bare row this is a premise. The card (YtlihhjcneedgnaaDoorCards.lean) ties it to the program's text. -/
def laid_liftwell_msg_names {H : Type} : DataW H := .agg [.lit (.string []), .lit (.string [104, 101, 108, 108, 111]), .lit (.string [119, 101, 108, 99, 111, 109, 101]), .lit (.string [114, 101, 113, 117, 101, 115, 116]), .lit (.string [103, 114, 97, 110, 116]), .lit (.string [113, 117, 101, 117, 101, 100]), .lit (.string [98, 117, 115, 121]), .lit (.string [100, 101, 110, 121]), .lit (.string [97, 114, 114, 105, 118, 101, 100]), .lit (.string [101, 110, 116, 101, 114, 101, 100]), .lit (.string [114, 105, 100, 101, 111, 107]), .lit (.string [114, 101, 106, 101, 99, 116]), .lit (.string [101, 120, 105, 116]), .lit (.string [101, 120, 105, 116, 101, 100]), .lit (.string [101, 120, 105, 116, 111, 107]), .lit (.string [114, 101, 110, 101, 119]), .lit (.string [101, 118, 105, 99, 116])]

/-- 'liftwelllaw04.MsgPuts': WHATEVER THE INPUT: true; the input reads as it did. -/
def msgPutsSpec : ChangeSpec := { name := "msgPuts", fn := fun _ => fun
  | [d] => { results := [.lit (.bool true)], args := [d] }
  | _ => none }
def msgPutsRow : OpenClaim := { program := "ytlihhjcneedgnaadoor", sum := "0ba6d4cad182e67dc957f09468eefdf3865d95aa64cc2913956b9fec1b3baa42", func := "liftwell/liftwelllaw04.MsgPuts", spec := "msgPuts", named := ["liftwell/msg.names"], apart := false, laid := [("liftwell/msg.names", laid_liftwell_msg_names)] }
def MsgPutsSaid : Prop := msgPutsRow.holds Tryd.pinned (OpenSpec.ofChange msgPutsSpec)

/-- ITS FALSE NEIGHBOUR: 'it returns false'. Refute it at one input. -/
def msgPutsWrong : ChangeSpec := { name := "msgPuts", fn := fun _ => fun
  | [d] => { results := [.lit (.bool false)], args := [d] }
  | _ => none }
def MsgPutsWrongFalsely : Prop := msgPutsRow.holds Tryd.pinned (OpenSpec.ofChange msgPutsWrong)

/-- 'liftwelllaw04.MsgGets': WHATEVER THE INPUT: true; the input reads as it did. -/
def msgGetsSpec : ChangeSpec := { name := "msgGets", fn := fun _ => fun
  | [d] => { results := [.lit (.bool true)], args := [d] }
  | _ => none }
def msgGetsRow : OpenClaim := { program := "ytlihhjcneedgnaadoor", sum := "0ba6d4cad182e67dc957f09468eefdf3865d95aa64cc2913956b9fec1b3baa42", func := "liftwell/liftwelllaw04.MsgGets", spec := "msgGets", named := ["liftwell/msg.names"], apart := false, laid := [("liftwell/msg.names", laid_liftwell_msg_names)] }
def MsgGetsSaid : Prop := msgGetsRow.holds Tryd.pinned (OpenSpec.ofChange msgGetsSpec)

/-- ITS FALSE NEIGHBOUR: 'it returns false'. Refute it at one input. -/
def msgGetsWrong : ChangeSpec := { name := "msgGets", fn := fun _ => fun
  | [d] => { results := [.lit (.bool false)], args := [d] }
  | _ => none }
def MsgGetsWrongFalsely : Prop := msgGetsRow.holds Tryd.pinned (OpenSpec.ofChange msgGetsWrong)

/-- 'liftwelllaw04.MsgBack': WHATEVER THE INPUT: true; the input reads as it did. -/
def msgBackSpec : ChangeSpec := { name := "msgBack", fn := fun _ => fun
  | [d] => { results := [.lit (.bool true)], args := [d] }
  | _ => none }
def msgBackRow : OpenClaim := { program := "ytlihhjcneedgnaadoor", sum := "0ba6d4cad182e67dc957f09468eefdf3865d95aa64cc2913956b9fec1b3baa42", func := "liftwell/liftwelllaw04.MsgBack", spec := "msgBack", named := ["liftwell/msg.names"], apart := false, laid := [("liftwell/msg.names", laid_liftwell_msg_names)] }
def MsgBackSaid : Prop := msgBackRow.holds Tryd.pinned (OpenSpec.ofChange msgBackSpec)

/-- ITS FALSE NEIGHBOUR: 'it returns false'. Refute it at one input. -/
def msgBackWrong : ChangeSpec := { name := "msgBack", fn := fun _ => fun
  | [d] => { results := [.lit (.bool false)], args := [d] }
  | _ => none }
def MsgBackWrongFalsely : Prop := msgBackRow.holds Tryd.pinned (OpenSpec.ofChange msgBackWrong)

/-- 'liftwelllaw04.MsgNames': WHATEVER THE INPUT: true; the input reads as it did. -/
def msgNamesSpec : ChangeSpec := { name := "msgNames", fn := fun _ => fun
  | [d] => { results := [.lit (.bool true)], args := [d] }
  | _ => none }
def msgNamesRow : OpenClaim := { program := "ytlihhjcneedgnaadoor", sum := "0ba6d4cad182e67dc957f09468eefdf3865d95aa64cc2913956b9fec1b3baa42", func := "liftwell/liftwelllaw04.MsgNames", spec := "msgNames", named := ["liftwell/msg.names"], apart := false, laid := [("liftwell/msg.names", laid_liftwell_msg_names)] }
def MsgNamesSaid : Prop := msgNamesRow.holds Tryd.pinned (OpenSpec.ofChange msgNamesSpec)

/-- ITS FALSE NEIGHBOUR: 'it returns false'. Refute it at one input. -/
def msgNamesWrong : ChangeSpec := { name := "msgNames", fn := fun _ => fun
  | [d] => { results := [.lit (.bool false)], args := [d] }
  | _ => none }
def MsgNamesWrongFalsely : Prop := msgNamesRow.holds Tryd.pinned (OpenSpec.ofChange msgNamesWrong)

/- THE SECOND FORM. 'bulk': how many values and letters a reading holds, each counted each time it is reached (what is shared counts as often as it is met; a slice's spare places count too). A statement '..UptoSaid' is the law's where the arguments, and the package variables that the reading takes, are together of bulk at most 1048576: NARROWER than '..Said'. Prove '..Said' where nothing that the law and all that it calls make is longer than what came in: it says more and counts as full. Else prove '..UptoSaid'. A law counts once. -/
mutual
def uptoBulk {H : Type} : DataW H → Nat
  | .lit (.string bytes) => bytes.length + 1
  | .lit _ => 1
  | .nil => 1
  | .ptr d => uptoBulk d + 1
  | .slice elems spare => uptoBulkAll elems + uptoBulkAll spare + 1
  | .agg parts => uptoBulkAll parts + 1
  | .iface _ d => uptoBulk d + 1
  | .map entries => uptoBulkEntries entries + 1
  | .held _ => 1
def uptoBulkAll {H : Type} : List (DataW H) → Nat
  | [] => 0
  | d :: r => uptoBulk d + uptoBulkAll r
def uptoBulkEntries {H : Type} : List (Lit × DataW H) → Nat
  | [] => 0
  | x :: r => uptoBulkEntry x + uptoBulkEntries r
def uptoBulkEntry {H : Type} : Lit × DataW H → Nat
  | (.string bytes, d) => bytes.length + uptoBulk d + 1
  | (_, d) => uptoBulk d + 1
 end
def uptoSmall : (H : Type) → List (DataW H) → Bool := fun _ ds => decide (uptoBulkAll ds ≤ 1048576)
def OpenSpec.upto (s : _root_.Go.ChangeSpec) : _root_.Go.OpenSpec := { _root_.Go.OpenSpec.ofChange s with cond := some uptoSmall }

/-- 'liftwelllaw04.MsgPuts', WHERE WHAT IT READS IS OF BULK AT MOST 1048576: true; the input reads as it did. -/
def msgPutsUptoRow : OpenClaim := { program := "ytlihhjcneedgnaadoor", sum := "0ba6d4cad182e67dc957f09468eefdf3865d95aa64cc2913956b9fec1b3baa42", func := "liftwell/liftwelllaw04.MsgPuts", spec := "msgPuts", named := ["liftwell/msg.names"], apart := false, laid := [("liftwell/msg.names", laid_liftwell_msg_names)], narrowed := true }
def MsgPutsUptoSaid : Prop := msgPutsUptoRow.holds Tryd.pinned (OpenSpec.upto msgPutsSpec)

/-- 'liftwelllaw04.MsgGets', WHERE WHAT IT READS IS OF BULK AT MOST 1048576: true; the input reads as it did. -/
def msgGetsUptoRow : OpenClaim := { program := "ytlihhjcneedgnaadoor", sum := "0ba6d4cad182e67dc957f09468eefdf3865d95aa64cc2913956b9fec1b3baa42", func := "liftwell/liftwelllaw04.MsgGets", spec := "msgGets", named := ["liftwell/msg.names"], apart := false, laid := [("liftwell/msg.names", laid_liftwell_msg_names)], narrowed := true }
def MsgGetsUptoSaid : Prop := msgGetsUptoRow.holds Tryd.pinned (OpenSpec.upto msgGetsSpec)

/-- 'liftwelllaw04.MsgBack', WHERE WHAT IT READS IS OF BULK AT MOST 1048576: true; the input reads as it did. -/
def msgBackUptoRow : OpenClaim := { program := "ytlihhjcneedgnaadoor", sum := "0ba6d4cad182e67dc957f09468eefdf3865d95aa64cc2913956b9fec1b3baa42", func := "liftwell/liftwelllaw04.MsgBack", spec := "msgBack", named := ["liftwell/msg.names"], apart := false, laid := [("liftwell/msg.names", laid_liftwell_msg_names)], narrowed := true }
def MsgBackUptoSaid : Prop := msgBackUptoRow.holds Tryd.pinned (OpenSpec.upto msgBackSpec)

/-- 'liftwelllaw04.MsgNames', WHERE WHAT IT READS IS OF BULK AT MOST 1048576: true; the input reads as it did. -/
def msgNamesUptoRow : OpenClaim := { program := "ytlihhjcneedgnaadoor", sum := "0ba6d4cad182e67dc957f09468eefdf3865d95aa64cc2913956b9fec1b3baa42", func := "liftwell/liftwelllaw04.MsgNames", spec := "msgNames", named := ["liftwell/msg.names"], apart := false, laid := [("liftwell/msg.names", laid_liftwell_msg_names)], narrowed := true }
def MsgNamesUptoSaid : Prop := msgNamesUptoRow.holds Tryd.pinned (OpenSpec.upto msgNamesSpec)

end Rows
end Go.Proofs.YtlihhjcneedgnaaDoor
