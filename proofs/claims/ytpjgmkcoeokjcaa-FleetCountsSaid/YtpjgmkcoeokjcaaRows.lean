/-
  No cell of these rows narrows 'for every input' (looked for: loops, veiled, ifaces, maps, wideKeys, modest, calm, conditions, laid).
  DERIVED. THE GIVEN ROWS OF THIS SEAT. 4 by the template 'for every input the law returns true; each argument reads behind the call as it read before'; 0 by the template 'total and deterministic' (their statements: YtpjgmkcoeokjcaaTotals.lean).
  GIVEN WITH THE SEED: the statements are not yours to turn. If you find one false, say at which input.
  Laid BY PROGRAM, IN A SANDBOX (cutbox-rows.mjs): the forced cells as the released guide's own fill.sh prints them over the translation 0052837f815159f0… (all of the seat's roots in one cut). By AI agents, Wed Nov 11 2026. No macro, syntax, notation, axiom, sorry.
-/
import Derived.Test.YtpjgmkcoeokjcaaChecked
import GoSem.Claim
import GoSem.ClaimJoined
import GoSem.ClaimMapViews
import Derived.JoinedTies
import Derived.KernelRfl
namespace Go.Proofs.Ytpjgmkcoeokjcaa
/- THE CELL 'sum', in the pinned program and in every row, IS THE sha256 OF THE DUMP (.gsa) THAT YtpjgmkcoeokjcaaProg.lean LOADS. Nothing in Lean hashes anything: it is a label: what it is worth is what the hold of that sum in a sandbox is worth. -/
noncomputable def Try.pinned : Pinned := { name := "ytpjgmkcoeokjcaa", sum := "0052837f815159f008762e07c7e91b693a3d4fef80c2e2c99d4422f3eaeb2d73", checked := Try.checked }
namespace Rows
def none {H : Type} : Left H := { results := [], args := [] }

/-- 'liftwelllaw08.DoorTicks': WHATEVER THE INPUT: true; the input reads as it did. -/
def doorTicksSpec : ChangeSpec := { name := "doorTicks", fn := fun _ => fun
  | [d1, d2, d3] => { results := [.lit (.bool true)], args := [d1, d2, d3] }
  | _ => none }
def doorTicksRow : OpenClaim := { program := "ytpjgmkcoeokjcaa", sum := "0052837f815159f008762e07c7e91b693a3d4fef80c2e2c99d4422f3eaeb2d73", func := "liftwell/liftwelllaw08.DoorTicks", spec := "doorTicks", apart := false }
def DoorTicksSaid : Prop := doorTicksRow.holds Try.pinned (OpenSpec.ofChange doorTicksSpec)

/-- ITS FALSE NEIGHBOUR: 'it returns false'. Refute it at one input. -/
def doorTicksWrong : ChangeSpec := { name := "doorTicks", fn := fun _ => fun
  | [d1, d2, d3] => { results := [.lit (.bool false)], args := [d1, d2, d3] }
  | _ => none }
def DoorTicksWrongFalsely : Prop := doorTicksRow.holds Try.pinned (OpenSpec.ofChange doorTicksWrong)

/-- 'liftwelllaw17.FleetCounts': WHATEVER THE INPUT: true; the input reads as it did. -/
def fleetCountsSpec : ChangeSpec := { name := "fleetCounts", fn := fun _ => fun
  | [d1, d2, d3] => { results := [.lit (.bool true)], args := [d1, d2, d3] }
  | _ => none }
def fleetCountsRow : OpenClaim := { program := "ytpjgmkcoeokjcaa", sum := "0052837f815159f008762e07c7e91b693a3d4fef80c2e2c99d4422f3eaeb2d73", func := "liftwell/liftwelllaw17.FleetCounts", spec := "fleetCounts", apart := false }
def FleetCountsSaid : Prop := fleetCountsRow.holds Try.pinned (OpenSpec.ofChange fleetCountsSpec)

/-- ITS FALSE NEIGHBOUR: 'it returns false'. Refute it at one input. -/
def fleetCountsWrong : ChangeSpec := { name := "fleetCounts", fn := fun _ => fun
  | [d1, d2, d3] => { results := [.lit (.bool false)], args := [d1, d2, d3] }
  | _ => none }
def FleetCountsWrongFalsely : Prop := fleetCountsRow.holds Try.pinned (OpenSpec.ofChange fleetCountsWrong)

/-- 'liftwelllaw17.FleetMay': WHATEVER THE INPUT: true; the input reads as it did. -/
def fleetMaySpec : ChangeSpec := { name := "fleetMay", fn := fun _ => fun
  | [d1, d2] => { results := [.lit (.bool true)], args := [d1, d2] }
  | _ => none }
def fleetMayRow : OpenClaim := { program := "ytpjgmkcoeokjcaa", sum := "0052837f815159f008762e07c7e91b693a3d4fef80c2e2c99d4422f3eaeb2d73", func := "liftwell/liftwelllaw17.FleetMay", spec := "fleetMay", apart := false }
def FleetMaySaid : Prop := fleetMayRow.holds Try.pinned (OpenSpec.ofChange fleetMaySpec)

/-- ITS FALSE NEIGHBOUR: 'it returns false'. Refute it at one input. -/
def fleetMayWrong : ChangeSpec := { name := "fleetMay", fn := fun _ => fun
  | [d1, d2] => { results := [.lit (.bool false)], args := [d1, d2] }
  | _ => none }
def FleetMayWrongFalsely : Prop := fleetMayRow.holds Try.pinned (OpenSpec.ofChange fleetMayWrong)

/-- 'liftwelllaw23.BoundFormulas': WHATEVER THE INPUT: true; the input reads as it did. -/
def boundFormulasSpec : ChangeSpec := { name := "boundFormulas", fn := fun _ => fun
  | [d] => { results := [.lit (.bool true)], args := [d] }
  | _ => none }
def boundFormulasRow : OpenClaim := { program := "ytpjgmkcoeokjcaa", sum := "0052837f815159f008762e07c7e91b693a3d4fef80c2e2c99d4422f3eaeb2d73", func := "liftwell/liftwelllaw23.BoundFormulas", spec := "boundFormulas", apart := false }
def BoundFormulasSaid : Prop := boundFormulasRow.holds Try.pinned (OpenSpec.ofChange boundFormulasSpec)

/-- ITS FALSE NEIGHBOUR: 'it returns false'. Refute it at one input. -/
def boundFormulasWrong : ChangeSpec := { name := "boundFormulas", fn := fun _ => fun
  | [d] => { results := [.lit (.bool false)], args := [d] }
  | _ => none }
def BoundFormulasWrongFalsely : Prop := boundFormulasRow.holds Try.pinned (OpenSpec.ofChange boundFormulasWrong)

/- THE SECOND FORM. 'bulk': how many values and letters a reading holds, each counted each time it is reached (what is shared counts as often as it is met; a slice's spare places count too). A statement '..UptoSaid' is the law's where the arguments, and the package variables that the reading takes, are together of bulk at most 1048576: NARROWER than '..Said'. Prove '..Said' where nothing that the law and all that it calls make is longer than what came in: it says more and counts as full. Else prove '..UptoSaid'. A law counts once. -/
mutual
def uptoBulk {H : Type} : DataW H → Nat
  | .lit (.string bytes) => bytes.length + 1
  | .lit _ => 1
  | .nil => 1
  | .ptr d => uptoBulk d + 1
  | .slice elems spare => uptoBulkAll elems + uptoBulkAll spare + 1
  | .agg parts => uptoBulkAll parts + 1
  | .iface _ d => uptoBulk d + 1
  | .map entries => uptoBulkEntries entries + 1
  | .held _ => 1
def uptoBulkAll {H : Type} : List (DataW H) → Nat
  | [] => 0
  | d :: r => uptoBulk d + uptoBulkAll r
def uptoBulkEntries {H : Type} : List (Lit × DataW H) → Nat
  | [] => 0
  | x :: r => uptoBulkEntry x + uptoBulkEntries r
def uptoBulkEntry {H : Type} : Lit × DataW H → Nat
  | (.string bytes, d) => bytes.length + uptoBulk d + 1
  | (_, d) => uptoBulk d + 1
 end
def uptoSmall : (H : Type) → List (DataW H) → Bool := fun _ ds => decide (uptoBulkAll ds ≤ 1048576)
def OpenSpec.upto (s : _root_.Go.ChangeSpec) : _root_.Go.OpenSpec := { _root_.Go.OpenSpec.ofChange s with cond := some uptoSmall }

/-- 'liftwelllaw08.DoorTicks', WHERE WHAT IT READS IS OF BULK AT MOST 1048576: true; the input reads as it did. -/
def doorTicksUptoRow : OpenClaim := { program := "ytpjgmkcoeokjcaa", sum := "0052837f815159f008762e07c7e91b693a3d4fef80c2e2c99d4422f3eaeb2d73", func := "liftwell/liftwelllaw08.DoorTicks", spec := "doorTicks", apart := false, narrowed := true }
def DoorTicksUptoSaid : Prop := doorTicksUptoRow.holds Try.pinned (OpenSpec.upto doorTicksSpec)

/-- 'liftwelllaw17.FleetCounts', WHERE WHAT IT READS IS OF BULK AT MOST 1048576: true; the input reads as it did. -/
def fleetCountsUptoRow : OpenClaim := { program := "ytpjgmkcoeokjcaa", sum := "0052837f815159f008762e07c7e91b693a3d4fef80c2e2c99d4422f3eaeb2d73", func := "liftwell/liftwelllaw17.FleetCounts", spec := "fleetCounts", apart := false, narrowed := true }
def FleetCountsUptoSaid : Prop := fleetCountsUptoRow.holds Try.pinned (OpenSpec.upto fleetCountsSpec)

/-- 'liftwelllaw17.FleetMay', WHERE WHAT IT READS IS OF BULK AT MOST 1048576: true; the input reads as it did. -/
def fleetMayUptoRow : OpenClaim := { program := "ytpjgmkcoeokjcaa", sum := "0052837f815159f008762e07c7e91b693a3d4fef80c2e2c99d4422f3eaeb2d73", func := "liftwell/liftwelllaw17.FleetMay", spec := "fleetMay", apart := false, narrowed := true }
def FleetMayUptoSaid : Prop := fleetMayUptoRow.holds Try.pinned (OpenSpec.upto fleetMaySpec)

/-- 'liftwelllaw23.BoundFormulas', WHERE WHAT IT READS IS OF BULK AT MOST 1048576: true; the input reads as it did. -/
def boundFormulasUptoRow : OpenClaim := { program := "ytpjgmkcoeokjcaa", sum := "0052837f815159f008762e07c7e91b693a3d4fef80c2e2c99d4422f3eaeb2d73", func := "liftwell/liftwelllaw23.BoundFormulas", spec := "boundFormulas", apart := false, narrowed := true }
def BoundFormulasUptoSaid : Prop := boundFormulasUptoRow.holds Try.pinned (OpenSpec.upto boundFormulasSpec)

end Rows
end Go.Proofs.Ytpjgmkcoeokjcaa
