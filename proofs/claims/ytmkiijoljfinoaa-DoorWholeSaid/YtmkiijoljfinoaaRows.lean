/-
  No cell of these rows narrows 'for every input' (looked for: loops, veiled, ifaces, maps, wideKeys, modest, calm, conditions, laid).
  DERIVED. THE GIVEN ROWS OF THIS SEAT. 7 by the template 'for every input the law returns true; each argument reads behind the call as it read before'; 0 by the template 'total and deterministic' (their statements: YtmkiijoljfinoaaTotals.lean).
  GIVEN WITH THE SEED: the statements are not yours to turn. If you find one false, say at which input.
  Laid BY PROGRAM, IN A SANDBOX (cutbox-rows.mjs): the forced cells as the released guide's own fill.sh prints them over the translation 316d0a60355d6131… (all of the seat's roots in one cut). By AI agents, Wed Nov 11 2026. No macro, syntax, notation, axiom, sorry.
-/
import Derived.Test.YtmkiijoljfinoaaChecked
import GoSem.Claim
import GoSem.ClaimJoined
import GoSem.ClaimMapViews
import Derived.JoinedTies
import Derived.KernelRfl
namespace Go.Proofs.Ytmkiijoljfinoaa
/- THE CELL 'sum', in the pinned program and in every row, IS THE sha256 OF THE DUMP (.gsa) THAT YtmkiijoljfinoaaProg.lean LOADS. Nothing in Lean hashes anything: it is a label: what it is worth is what the hold of that sum in a sandbox is worth. -/
noncomputable def Try.pinned : Pinned := { name := "ytmkiijoljfinoaa", sum := "316d0a60355d61316277ee76f1a01e8db48c35209ffd7e105a447e4216154a64", checked := Try.checked }
namespace Rows
def none {H : Type} : Left H := { results := [], args := [] }

/-- 'liftwelllaw05.SerialNear': WHATEVER THE INPUT: true; the input reads as it did. -/
def serialNearSpec : ChangeSpec := { name := "serialNear", fn := fun _ => fun
  | [d1, d2] => { results := [.lit (.bool true)], args := [d1, d2] }
  | _ => none }
def serialNearRow : OpenClaim := { program := "ytmkiijoljfinoaa", sum := "316d0a60355d61316277ee76f1a01e8db48c35209ffd7e105a447e4216154a64", func := "liftwell/liftwelllaw05.SerialNear", spec := "serialNear", apart := false }
def SerialNearSaid : Prop := serialNearRow.holds Try.pinned (OpenSpec.ofChange serialNearSpec)

/-- ITS FALSE NEIGHBOUR: 'it returns false'. Refute it at one input. -/
def serialNearWrong : ChangeSpec := { name := "serialNear", fn := fun _ => fun
  | [d1, d2] => { results := [.lit (.bool false)], args := [d1, d2] }
  | _ => none }
def SerialNearWrongFalsely : Prop := serialNearRow.holds Try.pinned (OpenSpec.ofChange serialNearWrong)

/-- 'liftwelllaw05.SerialSteps': WHATEVER THE INPUT: true; the input reads as it did. -/
def serialStepsSpec : ChangeSpec := { name := "serialSteps", fn := fun _ => fun
  | [d1, d2] => { results := [.lit (.bool true)], args := [d1, d2] }
  | _ => none }
def serialStepsRow : OpenClaim := { program := "ytmkiijoljfinoaa", sum := "316d0a60355d61316277ee76f1a01e8db48c35209ffd7e105a447e4216154a64", func := "liftwell/liftwelllaw05.SerialSteps", spec := "serialSteps", apart := false }
def SerialStepsSaid : Prop := serialStepsRow.holds Try.pinned (OpenSpec.ofChange serialStepsSpec)

/-- ITS FALSE NEIGHBOUR: 'it returns false'. Refute it at one input. -/
def serialStepsWrong : ChangeSpec := { name := "serialSteps", fn := fun _ => fun
  | [d1, d2] => { results := [.lit (.bool false)], args := [d1, d2] }
  | _ => none }
def SerialStepsWrongFalsely : Prop := serialStepsRow.holds Try.pinned (OpenSpec.ofChange serialStepsWrong)

/-- 'liftwelllaw08.DoorTicks': WHATEVER THE INPUT: true; the input reads as it did. -/
def doorTicksSpec : ChangeSpec := { name := "doorTicks", fn := fun _ => fun
  | [d1, d2, d3] => { results := [.lit (.bool true)], args := [d1, d2, d3] }
  | _ => none }
def doorTicksRow : OpenClaim := { program := "ytmkiijoljfinoaa", sum := "316d0a60355d61316277ee76f1a01e8db48c35209ffd7e105a447e4216154a64", func := "liftwell/liftwelllaw08.DoorTicks", spec := "doorTicks", apart := false }
def DoorTicksSaid : Prop := doorTicksRow.holds Try.pinned (OpenSpec.ofChange doorTicksSpec)

/-- ITS FALSE NEIGHBOUR: 'it returns false'. Refute it at one input. -/
def doorTicksWrong : ChangeSpec := { name := "doorTicks", fn := fun _ => fun
  | [d1, d2, d3] => { results := [.lit (.bool false)], args := [d1, d2, d3] }
  | _ => none }
def DoorTicksWrongFalsely : Prop := doorTicksRow.holds Try.pinned (OpenSpec.ofChange doorTicksWrong)

/-- 'liftwelllaw08.DoorStays': WHATEVER THE INPUT: true; the input reads as it did. -/
def doorStaysSpec : ChangeSpec := { name := "doorStays", fn := fun _ => fun
  | [d1, d2] => { results := [.lit (.bool true)], args := [d1, d2] }
  | _ => none }
def doorStaysRow : OpenClaim := { program := "ytmkiijoljfinoaa", sum := "316d0a60355d61316277ee76f1a01e8db48c35209ffd7e105a447e4216154a64", func := "liftwell/liftwelllaw08.DoorStays", spec := "doorStays", apart := false }
def DoorStaysSaid : Prop := doorStaysRow.holds Try.pinned (OpenSpec.ofChange doorStaysSpec)

/-- ITS FALSE NEIGHBOUR: 'it returns false'. Refute it at one input. -/
def doorStaysWrong : ChangeSpec := { name := "doorStays", fn := fun _ => fun
  | [d1, d2] => { results := [.lit (.bool false)], args := [d1, d2] }
  | _ => none }
def DoorStaysWrongFalsely : Prop := doorStaysRow.holds Try.pinned (OpenSpec.ofChange doorStaysWrong)

/-- 'liftwelllaw08.DoorWhole': WHATEVER THE INPUT: true; the input reads as it did. -/
def doorWholeSpec : ChangeSpec := { name := "doorWhole", fn := fun _ => fun
  | [d1, d2] => { results := [.lit (.bool true)], args := [d1, d2] }
  | _ => none }
def doorWholeRow : OpenClaim := { program := "ytmkiijoljfinoaa", sum := "316d0a60355d61316277ee76f1a01e8db48c35209ffd7e105a447e4216154a64", func := "liftwell/liftwelllaw08.DoorWhole", spec := "doorWhole", apart := false }
def DoorWholeSaid : Prop := doorWholeRow.holds Try.pinned (OpenSpec.ofChange doorWholeSpec)

/-- ITS FALSE NEIGHBOUR: 'it returns false'. Refute it at one input. -/
def doorWholeWrong : ChangeSpec := { name := "doorWhole", fn := fun _ => fun
  | [d1, d2] => { results := [.lit (.bool false)], args := [d1, d2] }
  | _ => none }
def DoorWholeWrongFalsely : Prop := doorWholeRow.holds Try.pinned (OpenSpec.ofChange doorWholeWrong)

/-- 'liftwelllaw10.CellWeighs': WHATEVER THE INPUT: true; the input reads as it did. -/
def cellWeighsSpec : ChangeSpec := { name := "cellWeighs", fn := fun _ => fun
  | [d1, d2, d3] => { results := [.lit (.bool true)], args := [d1, d2, d3] }
  | _ => none }
def cellWeighsRow : OpenClaim := { program := "ytmkiijoljfinoaa", sum := "316d0a60355d61316277ee76f1a01e8db48c35209ffd7e105a447e4216154a64", func := "liftwell/liftwelllaw10.CellWeighs", spec := "cellWeighs", apart := false }
def CellWeighsSaid : Prop := cellWeighsRow.holds Try.pinned (OpenSpec.ofChange cellWeighsSpec)

/-- ITS FALSE NEIGHBOUR: 'it returns false'. Refute it at one input. -/
def cellWeighsWrong : ChangeSpec := { name := "cellWeighs", fn := fun _ => fun
  | [d1, d2, d3] => { results := [.lit (.bool false)], args := [d1, d2, d3] }
  | _ => none }
def CellWeighsWrongFalsely : Prop := cellWeighsRow.holds Try.pinned (OpenSpec.ofChange cellWeighsWrong)

/-- 'liftwelllaw10.CellSides': WHATEVER THE INPUT: true; the input reads as it did. -/
def cellSidesSpec : ChangeSpec := { name := "cellSides", fn := fun _ => fun
  | [d1, d2, d3, d4] => { results := [.lit (.bool true)], args := [d1, d2, d3, d4] }
  | _ => none }
def cellSidesRow : OpenClaim := { program := "ytmkiijoljfinoaa", sum := "316d0a60355d61316277ee76f1a01e8db48c35209ffd7e105a447e4216154a64", func := "liftwell/liftwelllaw10.CellSides", spec := "cellSides", apart := false }
def CellSidesSaid : Prop := cellSidesRow.holds Try.pinned (OpenSpec.ofChange cellSidesSpec)

/-- ITS FALSE NEIGHBOUR: 'it returns false'. Refute it at one input. -/
def cellSidesWrong : ChangeSpec := { name := "cellSides", fn := fun _ => fun
  | [d1, d2, d3, d4] => { results := [.lit (.bool false)], args := [d1, d2, d3, d4] }
  | _ => none }
def CellSidesWrongFalsely : Prop := cellSidesRow.holds Try.pinned (OpenSpec.ofChange cellSidesWrong)

/- THE SECOND FORM. 'bulk': how many values and letters a reading holds, each counted each time it is reached (what is shared counts as often as it is met; a slice's spare places count too). A statement '..UptoSaid' is the law's where the arguments, and the package variables that the reading takes, are together of bulk at most 1048576: NARROWER than '..Said'. Prove '..Said' where nothing that the law and all that it calls make is longer than what came in: it says more and counts as full. Else prove '..UptoSaid'. A law counts once. -/
mutual
def uptoBulk {H : Type} : DataW H → Nat
  | .lit (.string bytes) => bytes.length + 1
  | .lit _ => 1
  | .nil => 1
  | .ptr d => uptoBulk d + 1
  | .slice elems spare => uptoBulkAll elems + uptoBulkAll spare + 1
  | .agg parts => uptoBulkAll parts + 1
  | .iface _ d => uptoBulk d + 1
  | .map entries => uptoBulkEntries entries + 1
  | .held _ => 1
def uptoBulkAll {H : Type} : List (DataW H) → Nat
  | [] => 0
  | d :: r => uptoBulk d + uptoBulkAll r
def uptoBulkEntries {H : Type} : List (Lit × DataW H) → Nat
  | [] => 0
  | x :: r => uptoBulkEntry x + uptoBulkEntries r
def uptoBulkEntry {H : Type} : Lit × DataW H → Nat
  | (.string bytes, d) => bytes.length + uptoBulk d + 1
  | (_, d) => uptoBulk d + 1
 end
def uptoSmall : (H : Type) → List (DataW H) → Bool := fun _ ds => decide (uptoBulkAll ds ≤ 1048576)
def OpenSpec.upto (s : _root_.Go.ChangeSpec) : _root_.Go.OpenSpec := { _root_.Go.OpenSpec.ofChange s with cond := some uptoSmall }

/-- 'liftwelllaw05.SerialNear', WHERE WHAT IT READS IS OF BULK AT MOST 1048576: true; the input reads as it did. -/
def serialNearUptoRow : OpenClaim := { program := "ytmkiijoljfinoaa", sum := "316d0a60355d61316277ee76f1a01e8db48c35209ffd7e105a447e4216154a64", func := "liftwell/liftwelllaw05.SerialNear", spec := "serialNear", apart := false, narrowed := true }
def SerialNearUptoSaid : Prop := serialNearUptoRow.holds Try.pinned (OpenSpec.upto serialNearSpec)

/-- 'liftwelllaw05.SerialSteps', WHERE WHAT IT READS IS OF BULK AT MOST 1048576: true; the input reads as it did. -/
def serialStepsUptoRow : OpenClaim := { program := "ytmkiijoljfinoaa", sum := "316d0a60355d61316277ee76f1a01e8db48c35209ffd7e105a447e4216154a64", func := "liftwell/liftwelllaw05.SerialSteps", spec := "serialSteps", apart := false, narrowed := true }
def SerialStepsUptoSaid : Prop := serialStepsUptoRow.holds Try.pinned (OpenSpec.upto serialStepsSpec)

/-- 'liftwelllaw08.DoorTicks', WHERE WHAT IT READS IS OF BULK AT MOST 1048576: true; the input reads as it did. -/
def doorTicksUptoRow : OpenClaim := { program := "ytmkiijoljfinoaa", sum := "316d0a60355d61316277ee76f1a01e8db48c35209ffd7e105a447e4216154a64", func := "liftwell/liftwelllaw08.DoorTicks", spec := "doorTicks", apart := false, narrowed := true }
def DoorTicksUptoSaid : Prop := doorTicksUptoRow.holds Try.pinned (OpenSpec.upto doorTicksSpec)

/-- 'liftwelllaw08.DoorStays', WHERE WHAT IT READS IS OF BULK AT MOST 1048576: true; the input reads as it did. -/
def doorStaysUptoRow : OpenClaim := { program := "ytmkiijoljfinoaa", sum := "316d0a60355d61316277ee76f1a01e8db48c35209ffd7e105a447e4216154a64", func := "liftwell/liftwelllaw08.DoorStays", spec := "doorStays", apart := false, narrowed := true }
def DoorStaysUptoSaid : Prop := doorStaysUptoRow.holds Try.pinned (OpenSpec.upto doorStaysSpec)

/-- 'liftwelllaw08.DoorWhole', WHERE WHAT IT READS IS OF BULK AT MOST 1048576: true; the input reads as it did. -/
def doorWholeUptoRow : OpenClaim := { program := "ytmkiijoljfinoaa", sum := "316d0a60355d61316277ee76f1a01e8db48c35209ffd7e105a447e4216154a64", func := "liftwell/liftwelllaw08.DoorWhole", spec := "doorWhole", apart := false, narrowed := true }
def DoorWholeUptoSaid : Prop := doorWholeUptoRow.holds Try.pinned (OpenSpec.upto doorWholeSpec)

/-- 'liftwelllaw10.CellWeighs', WHERE WHAT IT READS IS OF BULK AT MOST 1048576: true; the input reads as it did. -/
def cellWeighsUptoRow : OpenClaim := { program := "ytmkiijoljfinoaa", sum := "316d0a60355d61316277ee76f1a01e8db48c35209ffd7e105a447e4216154a64", func := "liftwell/liftwelllaw10.CellWeighs", spec := "cellWeighs", apart := false, narrowed := true }
def CellWeighsUptoSaid : Prop := cellWeighsUptoRow.holds Try.pinned (OpenSpec.upto cellWeighsSpec)

/-- 'liftwelllaw10.CellSides', WHERE WHAT IT READS IS OF BULK AT MOST 1048576: true; the input reads as it did. -/
def cellSidesUptoRow : OpenClaim := { program := "ytmkiijoljfinoaa", sum := "316d0a60355d61316277ee76f1a01e8db48c35209ffd7e105a447e4216154a64", func := "liftwell/liftwelllaw10.CellSides", spec := "cellSides", apart := false, narrowed := true }
def CellSidesUptoSaid : Prop := cellSidesUptoRow.holds Try.pinned (OpenSpec.upto cellSidesSpec)

end Rows
end Go.Proofs.Ytmkiijoljfinoaa
