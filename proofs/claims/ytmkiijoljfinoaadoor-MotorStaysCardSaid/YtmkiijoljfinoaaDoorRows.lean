/-
  NARROWER THAN 'FOR EVERY INPUT', by the rows' own cells (each row's printed sentence says how): MotorMoves: laid · MotorGoes: laid · MotorStays: laid · MotorNames: laid.
  DERIVED. THE GIVEN ROWS OF THIS SEAT. 4 by the template 'for every input the law returns true; each argument reads behind the call as it read before'; 0 by the template 'total and deterministic' (their statements: YtmkiijoljfinoaaDoorTotals.lean).
  GIVEN WITH THE SEED: the statements are not yours to turn. If you find one false, say at which input.
  Laid BY PROGRAM, IN A SANDBOX (cutbox-rows.mjs): the forced cells as the released guide's own fill.sh prints them over the translation 50c7a48eaa733781… (all of the seat's roots in one cut). By AI agents, Wed Nov 11 2026. No macro, syntax, notation, axiom, sorry.
-/
import Derived.Test.YtmkiijoljfinoaaDoorChecked
import GoSem.Claim
import GoSem.ClaimJoined
import GoSem.ClaimMapViews
import Derived.JoinedTies
import Derived.KernelRfl
namespace Go.Proofs.YtmkiijoljfinoaaDoor
/- THE CELL 'sum', in the pinned program and in every row, IS THE sha256 OF THE DUMP (.gsa) THAT YtmkiijoljfinoaaDoorProg.lean LOADS. Nothing in Lean hashes anything: it is a label: what it is worth is what the hold of that sum in a sandbox is worth. -/
noncomputable def Tryd.pinned : Pinned := { name := "ytmkiijoljfinoaadoor", sum := "50c7a48eaa733781eb21854d1684a46de62f05ff7e1ffc1ef8dbbd0a7b776174", checked := Tryd.checked }
namespace Rows
def none {H : Type} : Left H := { results := [], args := [] }

/- WHAT THE LISTED PACKAGE-LEVEL VARIABLES READ AS WHEN THE CALL BEGINS. Each datum BY PROGRAM (the guide's laid-datum.mjs) off the statement by which the dump's own 'gosem.cut.vars' lays the variable. In a bare row this is a premise. The card (YtmkiijoljfinoaaDoorCards.lean) ties it to the program's text. -/
def laid_liftwell_motor_names {H : Type} : DataW H := .agg [.lit (.string [115, 116, 105, 108, 108]), .lit (.string [117, 112]), .lit (.string [100, 111, 119, 110])]

/-- 'liftwelllaw09.MotorMoves': WHATEVER THE INPUT: true; the input reads as it did. -/
def motorMovesSpec : ChangeSpec := { name := "motorMoves", fn := fun _ => fun
  | [d1, d2, d3] => { results := [.lit (.bool true)], args := [d1, d2, d3] }
  | _ => none }
def motorMovesRow : OpenClaim := { program := "ytmkiijoljfinoaadoor", sum := "50c7a48eaa733781eb21854d1684a46de62f05ff7e1ffc1ef8dbbd0a7b776174", func := "liftwell/liftwelllaw09.MotorMoves", spec := "motorMoves", named := ["liftwell/motor.names"], apart := false, laid := [("liftwell/motor.names", laid_liftwell_motor_names)] }
def MotorMovesSaid : Prop := motorMovesRow.holds Tryd.pinned (OpenSpec.ofChange motorMovesSpec)

/-- ITS FALSE NEIGHBOUR: 'it returns false'. Refute it at one input. -/
def motorMovesWrong : ChangeSpec := { name := "motorMoves", fn := fun _ => fun
  | [d1, d2, d3] => { results := [.lit (.bool false)], args := [d1, d2, d3] }
  | _ => none }
def MotorMovesWrongFalsely : Prop := motorMovesRow.holds Tryd.pinned (OpenSpec.ofChange motorMovesWrong)

/-- 'liftwelllaw09.MotorGoes': WHATEVER THE INPUT: true; the input reads as it did. -/
def motorGoesSpec : ChangeSpec := { name := "motorGoes", fn := fun _ => fun
  | [d1, d2] => { results := [.lit (.bool true)], args := [d1, d2] }
  | _ => none }
def motorGoesRow : OpenClaim := { program := "ytmkiijoljfinoaadoor", sum := "50c7a48eaa733781eb21854d1684a46de62f05ff7e1ffc1ef8dbbd0a7b776174", func := "liftwell/liftwelllaw09.MotorGoes", spec := "motorGoes", named := ["liftwell/motor.names"], apart := false, laid := [("liftwell/motor.names", laid_liftwell_motor_names)] }
def MotorGoesSaid : Prop := motorGoesRow.holds Tryd.pinned (OpenSpec.ofChange motorGoesSpec)

/-- ITS FALSE NEIGHBOUR: 'it returns false'. Refute it at one input. -/
def motorGoesWrong : ChangeSpec := { name := "motorGoes", fn := fun _ => fun
  | [d1, d2] => { results := [.lit (.bool false)], args := [d1, d2] }
  | _ => none }
def MotorGoesWrongFalsely : Prop := motorGoesRow.holds Tryd.pinned (OpenSpec.ofChange motorGoesWrong)

/-- 'liftwelllaw09.MotorStays': WHATEVER THE INPUT: true; the input reads as it did. -/
def motorStaysSpec : ChangeSpec := { name := "motorStays", fn := fun _ => fun
  | [d1, d2] => { results := [.lit (.bool true)], args := [d1, d2] }
  | _ => none }
def motorStaysRow : OpenClaim := { program := "ytmkiijoljfinoaadoor", sum := "50c7a48eaa733781eb21854d1684a46de62f05ff7e1ffc1ef8dbbd0a7b776174", func := "liftwell/liftwelllaw09.MotorStays", spec := "motorStays", named := ["liftwell/motor.names"], apart := false, laid := [("liftwell/motor.names", laid_liftwell_motor_names)] }
def MotorStaysSaid : Prop := motorStaysRow.holds Tryd.pinned (OpenSpec.ofChange motorStaysSpec)

/-- ITS FALSE NEIGHBOUR: 'it returns false'. Refute it at one input. -/
def motorStaysWrong : ChangeSpec := { name := "motorStays", fn := fun _ => fun
  | [d1, d2] => { results := [.lit (.bool false)], args := [d1, d2] }
  | _ => none }
def MotorStaysWrongFalsely : Prop := motorStaysRow.holds Tryd.pinned (OpenSpec.ofChange motorStaysWrong)

/-- 'liftwelllaw09.MotorNames': WHATEVER THE INPUT: true; the input reads as it did. -/
def motorNamesSpec : ChangeSpec := { name := "motorNames", fn := fun _ => fun
  | [d] => { results := [.lit (.bool true)], args := [d] }
  | _ => none }
def motorNamesRow : OpenClaim := { program := "ytmkiijoljfinoaadoor", sum := "50c7a48eaa733781eb21854d1684a46de62f05ff7e1ffc1ef8dbbd0a7b776174", func := "liftwell/liftwelllaw09.MotorNames", spec := "motorNames", named := ["liftwell/motor.names"], apart := false, laid := [("liftwell/motor.names", laid_liftwell_motor_names)] }
def MotorNamesSaid : Prop := motorNamesRow.holds Tryd.pinned (OpenSpec.ofChange motorNamesSpec)

/-- ITS FALSE NEIGHBOUR: 'it returns false'. Refute it at one input. -/
def motorNamesWrong : ChangeSpec := { name := "motorNames", fn := fun _ => fun
  | [d] => { results := [.lit (.bool false)], args := [d] }
  | _ => none }
def MotorNamesWrongFalsely : Prop := motorNamesRow.holds Tryd.pinned (OpenSpec.ofChange motorNamesWrong)

/- THE SECOND FORM. 'bulk': how many values and letters a reading holds, each counted each time it is reached (what is shared counts as often as it is met; a slice's spare places count too). A statement '..UptoSaid' is the law's where the arguments, and the package variables that the reading takes, are together of bulk at most 1048576: NARROWER than '..Said'. Prove '..Said' where nothing that the law and all that it calls make is longer than what came in: it says more and counts as full. Else prove '..UptoSaid'. A law counts once. -/
mutual
def uptoBulk {H : Type} : DataW H → Nat
  | .lit (.string bytes) => bytes.length + 1
  | .lit _ => 1
  | .nil => 1
  | .ptr d => uptoBulk d + 1
  | .slice elems spare => uptoBulkAll elems + uptoBulkAll spare + 1
  | .agg parts => uptoBulkAll parts + 1
  | .iface _ d => uptoBulk d + 1
  | .map entries => uptoBulkEntries entries + 1
  | .held _ => 1
def uptoBulkAll {H : Type} : List (DataW H) → Nat
  | [] => 0
  | d :: r => uptoBulk d + uptoBulkAll r
def uptoBulkEntries {H : Type} : List (Lit × DataW H) → Nat
  | [] => 0
  | x :: r => uptoBulkEntry x + uptoBulkEntries r
def uptoBulkEntry {H : Type} : Lit × DataW H → Nat
  | (.string bytes, d) => bytes.length + uptoBulk d + 1
  | (_, d) => uptoBulk d + 1
 end
def uptoSmall : (H : Type) → List (DataW H) → Bool := fun _ ds => decide (uptoBulkAll ds ≤ 1048576)
def OpenSpec.upto (s : _root_.Go.ChangeSpec) : _root_.Go.OpenSpec := { _root_.Go.OpenSpec.ofChange s with cond := some uptoSmall }

/-- 'liftwelllaw09.MotorMoves', WHERE WHAT IT READS IS OF BULK AT MOST 1048576: true; the input reads as it did. -/
def motorMovesUptoRow : OpenClaim := { program := "ytmkiijoljfinoaadoor", sum := "50c7a48eaa733781eb21854d1684a46de62f05ff7e1ffc1ef8dbbd0a7b776174", func := "liftwell/liftwelllaw09.MotorMoves", spec := "motorMoves", named := ["liftwell/motor.names"], apart := false, laid := [("liftwell/motor.names", laid_liftwell_motor_names)], narrowed := true }
def MotorMovesUptoSaid : Prop := motorMovesUptoRow.holds Tryd.pinned (OpenSpec.upto motorMovesSpec)

/-- 'liftwelllaw09.MotorGoes', WHERE WHAT IT READS IS OF BULK AT MOST 1048576: true; the input reads as it did. -/
def motorGoesUptoRow : OpenClaim := { program := "ytmkiijoljfinoaadoor", sum := "50c7a48eaa733781eb21854d1684a46de62f05ff7e1ffc1ef8dbbd0a7b776174", func := "liftwell/liftwelllaw09.MotorGoes", spec := "motorGoes", named := ["liftwell/motor.names"], apart := false, laid := [("liftwell/motor.names", laid_liftwell_motor_names)], narrowed := true }
def MotorGoesUptoSaid : Prop := motorGoesUptoRow.holds Tryd.pinned (OpenSpec.upto motorGoesSpec)

/-- 'liftwelllaw09.MotorStays', WHERE WHAT IT READS IS OF BULK AT MOST 1048576: true; the input reads as it did. -/
def motorStaysUptoRow : OpenClaim := { program := "ytmkiijoljfinoaadoor", sum := "50c7a48eaa733781eb21854d1684a46de62f05ff7e1ffc1ef8dbbd0a7b776174", func := "liftwell/liftwelllaw09.MotorStays", spec := "motorStays", named := ["liftwell/motor.names"], apart := false, laid := [("liftwell/motor.names", laid_liftwell_motor_names)], narrowed := true }
def MotorStaysUptoSaid : Prop := motorStaysUptoRow.holds Tryd.pinned (OpenSpec.upto motorStaysSpec)

/-- 'liftwelllaw09.MotorNames', WHERE WHAT IT READS IS OF BULK AT MOST 1048576: true; the input reads as it did. -/
def motorNamesUptoRow : OpenClaim := { program := "ytmkiijoljfinoaadoor", sum := "50c7a48eaa733781eb21854d1684a46de62f05ff7e1ffc1ef8dbbd0a7b776174", func := "liftwell/liftwelllaw09.MotorNames", spec := "motorNames", named := ["liftwell/motor.names"], apart := false, laid := [("liftwell/motor.names", laid_liftwell_motor_names)], narrowed := true }
def MotorNamesUptoSaid : Prop := motorNamesUptoRow.holds Tryd.pinned (OpenSpec.upto motorNamesSpec)

end Rows
end Go.Proofs.YtmkiijoljfinoaaDoor
