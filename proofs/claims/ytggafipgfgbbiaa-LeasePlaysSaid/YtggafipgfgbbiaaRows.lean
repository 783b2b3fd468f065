/-
  No cell of these rows narrows 'for every input' (looked for: loops, veiled, ifaces, maps, wideKeys, modest, calm, conditions, laid).
  DERIVED. THE GIVEN ROWS OF THIS SEAT. 13 by the template 'for every input the law returns true; each argument reads behind the call as it read before'; 0 by the template 'total and deterministic' (their statements: YtggafipgfgbbiaaTotals.lean).
  GIVEN WITH THE SEED: the statements are not yours to turn. If you find one false, say at which input.
  Laid BY PROGRAM, IN A SANDBOX (cutbox-rows.mjs): the forced cells as the released guide's own fill.sh prints them over the translation 66aab98b913a202a… (all of the seat's roots in one cut). By AI agents, Wed Nov 11 2026. No macro, syntax, notation, axiom, sorry.
-/
import Derived.Test.YtggafipgfgbbiaaChecked
import GoSem.Claim
import GoSem.ClaimJoined
import GoSem.ClaimMapViews
import Derived.JoinedTies
import Derived.KernelRfl
namespace Go.Proofs.Ytggafipgfgbbiaa
/- THE CELL 'sum', in the pinned program and in every row, IS THE sha256 OF THE DUMP (.gsa) THAT YtggafipgfgbbiaaProg.lean LOADS. Nothing in Lean hashes anything: it is a label: what it is worth is what the hold of that sum in a sandbox is worth. -/
noncomputable def Try.pinned : Pinned := { name := "ytggafipgfgbbiaa", sum := "66aab98b913a202ad4567b4964f4a03c2feb92ab8c8fdb349af2fb4ebcde6448", checked := Try.checked }
namespace Rows
def none {H : Type} : Left H := { results := [], args := [] }

/-- 'liftwelllaw17.FleetCounts': WHATEVER THE INPUT: true; the input reads as it did. -/
def fleetCountsSpec : ChangeSpec := { name := "fleetCounts", fn := fun _ => fun
  | [d1, d2, d3] => { results := [.lit (.bool true)], args := [d1, d2, d3] }
  | _ => none }
def fleetCountsRow : OpenClaim := { program := "ytggafipgfgbbiaa", sum := "66aab98b913a202ad4567b4964f4a03c2feb92ab8c8fdb349af2fb4ebcde6448", func := "liftwell/liftwelllaw17.FleetCounts", spec := "fleetCounts", apart := false }
def FleetCountsSaid : Prop := fleetCountsRow.holds Try.pinned (OpenSpec.ofChange fleetCountsSpec)

/-- ITS FALSE NEIGHBOUR: 'it returns false'. Refute it at one input. -/
def fleetCountsWrong : ChangeSpec := { name := "fleetCounts", fn := fun _ => fun
  | [d1, d2, d3] => { results := [.lit (.bool false)], args := [d1, d2, d3] }
  | _ => none }
def FleetCountsWrongFalsely : Prop := fleetCountsRow.holds Try.pinned (OpenSpec.ofChange fleetCountsWrong)

/-- 'liftwelllaw17.FleetMay': WHATEVER THE INPUT: true; the input reads as it did. -/
def fleetMaySpec : ChangeSpec := { name := "fleetMay", fn := fun _ => fun
  | [d1, d2] => { results := [.lit (.bool true)], args := [d1, d2] }
  | _ => none }
def fleetMayRow : OpenClaim := { program := "ytggafipgfgbbiaa", sum := "66aab98b913a202ad4567b4964f4a03c2feb92ab8c8fdb349af2fb4ebcde6448", func := "liftwell/liftwelllaw17.FleetMay", spec := "fleetMay", apart := false }
def FleetMaySaid : Prop := fleetMayRow.holds Try.pinned (OpenSpec.ofChange fleetMaySpec)

/-- ITS FALSE NEIGHBOUR: 'it returns false'. Refute it at one input. -/
def fleetMayWrong : ChangeSpec := { name := "fleetMay", fn := fun _ => fun
  | [d1, d2] => { results := [.lit (.bool false)], args := [d1, d2] }
  | _ => none }
def FleetMayWrongFalsely : Prop := fleetMayRow.holds Try.pinned (OpenSpec.ofChange fleetMayWrong)

/-- 'liftwelllaw18.QueuePlays': WHATEVER THE INPUT: true; the input reads as it did. -/
def queuePlaysSpec : ChangeSpec := { name := "queuePlays", fn := fun _ => fun
  | [d1, d2] => { results := [.lit (.bool true)], args := [d1, d2] }
  | _ => none }
def queuePlaysRow : OpenClaim := { program := "ytggafipgfgbbiaa", sum := "66aab98b913a202ad4567b4964f4a03c2feb92ab8c8fdb349af2fb4ebcde6448", func := "liftwell/liftwelllaw18.QueuePlays", spec := "queuePlays", apart := false }
def QueuePlaysSaid : Prop := queuePlaysRow.holds Try.pinned (OpenSpec.ofChange queuePlaysSpec)

/-- ITS FALSE NEIGHBOUR: 'it returns false'. Refute it at one input. -/
def queuePlaysWrong : ChangeSpec := { name := "queuePlays", fn := fun _ => fun
  | [d1, d2] => { results := [.lit (.bool false)], args := [d1, d2] }
  | _ => none }
def QueuePlaysWrongFalsely : Prop := queuePlaysRow.holds Try.pinned (OpenSpec.ofChange queuePlaysWrong)

/-- 'liftwelllaw18.QueueFair': WHATEVER THE INPUT: true; the input reads as it did. -/
def queueFairSpec : ChangeSpec := { name := "queueFair", fn := fun _ => fun
  | [d1, d2, d3, d4] => { results := [.lit (.bool true)], args := [d1, d2, d3, d4] }
  | _ => none }
def queueFairRow : OpenClaim := { program := "ytggafipgfgbbiaa", sum := "66aab98b913a202ad4567b4964f4a03c2feb92ab8c8fdb349af2fb4ebcde6448", func := "liftwell/liftwelllaw18.QueueFair", spec := "queueFair", apart := false }
def QueueFairSaid : Prop := queueFairRow.holds Try.pinned (OpenSpec.ofChange queueFairSpec)

/-- ITS FALSE NEIGHBOUR: 'it returns false'. Refute it at one input. -/
def queueFairWrong : ChangeSpec := { name := "queueFair", fn := fun _ => fun
  | [d1, d2, d3, d4] => { results := [.lit (.bool false)], args := [d1, d2, d3, d4] }
  | _ => none }
def QueueFairWrongFalsely : Prop := queueFairRow.holds Try.pinned (OpenSpec.ofChange queueFairWrong)

/-- 'liftwelllaw18.QueueNone': WHATEVER THE INPUT: true; the input reads as it did. -/
def queueNoneSpec : ChangeSpec := { name := "queueNone", fn := fun _ => fun
  | [d] => { results := [.lit (.bool true)], args := [d] }
  | _ => none }
def queueNoneRow : OpenClaim := { program := "ytggafipgfgbbiaa", sum := "66aab98b913a202ad4567b4964f4a03c2feb92ab8c8fdb349af2fb4ebcde6448", func := "liftwell/liftwelllaw18.QueueNone", spec := "queueNone", apart := false }
def QueueNoneSaid : Prop := queueNoneRow.holds Try.pinned (OpenSpec.ofChange queueNoneSpec)

/-- ITS FALSE NEIGHBOUR: 'it returns false'. Refute it at one input. -/
def queueNoneWrong : ChangeSpec := { name := "queueNone", fn := fun _ => fun
  | [d] => { results := [.lit (.bool false)], args := [d] }
  | _ => none }
def QueueNoneWrongFalsely : Prop := queueNoneRow.holds Try.pinned (OpenSpec.ofChange queueNoneWrong)

/-- 'liftwelllaw19.LeasePlays': WHATEVER THE INPUT: true; the input reads as it did. -/
def leasePlaysSpec : ChangeSpec := { name := "leasePlays", fn := fun _ => fun
  | [d1, d2] => { results := [.lit (.bool true)], args := [d1, d2] }
  | _ => none }
def leasePlaysRow : OpenClaim := { program := "ytggafipgfgbbiaa", sum := "66aab98b913a202ad4567b4964f4a03c2feb92ab8c8fdb349af2fb4ebcde6448", func := "liftwell/liftwelllaw19.LeasePlays", spec := "leasePlays", unfollowed := true, recurses := true, apart := false }
def LeasePlaysSaid : Prop := leasePlaysRow.holds Try.pinned (OpenSpec.ofChange leasePlaysSpec)

/-- ITS FALSE NEIGHBOUR: 'it returns false'. Refute it at one input. -/
def leasePlaysWrong : ChangeSpec := { name := "leasePlays", fn := fun _ => fun
  | [d1, d2] => { results := [.lit (.bool false)], args := [d1, d2] }
  | _ => none }
def LeasePlaysWrongFalsely : Prop := leasePlaysRow.holds Try.pinned (OpenSpec.ofChange leasePlaysWrong)

/-- 'liftwelllaw19.LeaseTimes': WHATEVER THE INPUT: true; the input reads as it did. -/
def leaseTimesSpec : ChangeSpec := { name := "leaseTimes", fn := fun _ => fun
  | [d1, d2] => { results := [.lit (.bool true)], args := [d1, d2] }
  | _ => none }
def leaseTimesRow : OpenClaim := { program := "ytggafipgfgbbiaa", sum := "66aab98b913a202ad4567b4964f4a03c2feb92ab8c8fdb349af2fb4ebcde6448", func := "liftwell/liftwelllaw19.LeaseTimes", spec := "leaseTimes", unfollowed := true, recurses := true, apart := false }
def LeaseTimesSaid : Prop := leaseTimesRow.holds Try.pinned (OpenSpec.ofChange leaseTimesSpec)

/-- ITS FALSE NEIGHBOUR: 'it returns false'. Refute it at one input. -/
def leaseTimesWrong : ChangeSpec := { name := "leaseTimes", fn := fun _ => fun
  | [d1, d2] => { results := [.lit (.bool false)], args := [d1, d2] }
  | _ => none }
def LeaseTimesWrongFalsely : Prop := leaseTimesRow.holds Try.pinned (OpenSpec.ofChange leaseTimesWrong)

/-- 'liftwelllaw19.LeaseNone': WHATEVER THE INPUT: true; the input reads as it did. -/
def leaseNoneSpec : ChangeSpec := { name := "leaseNone", fn := fun _ => fun
  | [d] => { results := [.lit (.bool true)], args := [d] }
  | _ => none }
def leaseNoneRow : OpenClaim := { program := "ytggafipgfgbbiaa", sum := "66aab98b913a202ad4567b4964f4a03c2feb92ab8c8fdb349af2fb4ebcde6448", func := "liftwell/liftwelllaw19.LeaseNone", spec := "leaseNone", unfollowed := true, recurses := true, apart := false }
def LeaseNoneSaid : Prop := leaseNoneRow.holds Try.pinned (OpenSpec.ofChange leaseNoneSpec)

/-- ITS FALSE NEIGHBOUR: 'it returns false'. Refute it at one input. -/
def leaseNoneWrong : ChangeSpec := { name := "leaseNone", fn := fun _ => fun
  | [d] => { results := [.lit (.bool false)], args := [d] }
  | _ => none }
def LeaseNoneWrongFalsely : Prop := leaseNoneRow.holds Try.pinned (OpenSpec.ofChange leaseNoneWrong)

/-- 'liftwelllaw20.RideTicks': WHATEVER THE INPUT: true; the input reads as it did. -/
def rideTicksSpec : ChangeSpec := { name := "rideTicks", fn := fun _ => fun
  | [d1, d2, d3, d4] => { results := [.lit (.bool true)], args := [d1, d2, d3, d4] }
  | _ => none }
def rideTicksRow : OpenClaim := { program := "ytggafipgfgbbiaa", sum := "66aab98b913a202ad4567b4964f4a03c2feb92ab8c8fdb349af2fb4ebcde6448", func := "liftwell/liftwelllaw20.RideTicks", spec := "rideTicks", apart := false }
def RideTicksSaid : Prop := rideTicksRow.holds Try.pinned (OpenSpec.ofChange rideTicksSpec)

/-- ITS FALSE NEIGHBOUR: 'it returns false'. Refute it at one input. -/
def rideTicksWrong : ChangeSpec := { name := "rideTicks", fn := fun _ => fun
  | [d1, d2, d3, d4] => { results := [.lit (.bool false)], args := [d1, d2, d3, d4] }
  | _ => none }
def RideTicksWrongFalsely : Prop := rideTicksRow.holds Try.pinned (OpenSpec.ofChange rideTicksWrong)

/-- 'liftwelllaw20.RideHears': WHATEVER THE INPUT: true; the input reads as it did. -/
def rideHearsSpec : ChangeSpec := { name := "rideHears", fn := fun _ => fun
  | [d1, d2, d3, d4, d5] => { results := [.lit (.bool true)], args := [d1, d2, d3, d4, d5] }
  | _ => none }
def rideHearsRow : OpenClaim := { program := "ytggafipgfgbbiaa", sum := "66aab98b913a202ad4567b4964f4a03c2feb92ab8c8fdb349af2fb4ebcde6448", func := "liftwell/liftwelllaw20.RideHears", spec := "rideHears", apart := false }
def RideHearsSaid : Prop := rideHearsRow.holds Try.pinned (OpenSpec.ofChange rideHearsSpec)

/-- ITS FALSE NEIGHBOUR: 'it returns false'. Refute it at one input. -/
def rideHearsWrong : ChangeSpec := { name := "rideHears", fn := fun _ => fun
  | [d1, d2, d3, d4, d5] => { results := [.lit (.bool false)], args := [d1, d2, d3, d4, d5] }
  | _ => none }
def RideHearsWrongFalsely : Prop := rideHearsRow.holds Try.pinned (OpenSpec.ofChange rideHearsWrong)

/-- 'liftwelllaw20.RidePhases': WHATEVER THE INPUT: true; the input reads as it did. -/
def ridePhasesSpec : ChangeSpec := { name := "ridePhases", fn := fun _ => fun
  | [d1, d2, d3, d4, d5] => { results := [.lit (.bool true)], args := [d1, d2, d3, d4, d5] }
  | _ => none }
def ridePhasesRow : OpenClaim := { program := "ytggafipgfgbbiaa", sum := "66aab98b913a202ad4567b4964f4a03c2feb92ab8c8fdb349af2fb4ebcde6448", func := "liftwell/liftwelllaw20.RidePhases", spec := "ridePhases", apart := false }
def RidePhasesSaid : Prop := ridePhasesRow.holds Try.pinned (OpenSpec.ofChange ridePhasesSpec)

/-- ITS FALSE NEIGHBOUR: 'it returns false'. Refute it at one input. -/
def ridePhasesWrong : ChangeSpec := { name := "ridePhases", fn := fun _ => fun
  | [d1, d2, d3, d4, d5] => { results := [.lit (.bool false)], args := [d1, d2, d3, d4, d5] }
  | _ => none }
def RidePhasesWrongFalsely : Prop := ridePhasesRow.holds Try.pinned (OpenSpec.ofChange ridePhasesWrong)

/-- 'liftwelllaw20.RideEnds': WHATEVER THE INPUT: true; the input reads as it did. -/
def rideEndsSpec : ChangeSpec := { name := "rideEnds", fn := fun _ => fun
  | [d1, d2, d3, d4] => { results := [.lit (.bool true)], args := [d1, d2, d3, d4] }
  | _ => none }
def rideEndsRow : OpenClaim := { program := "ytggafipgfgbbiaa", sum := "66aab98b913a202ad4567b4964f4a03c2feb92ab8c8fdb349af2fb4ebcde6448", func := "liftwell/liftwelllaw20.RideEnds", spec := "rideEnds", apart := false }
def RideEndsSaid : Prop := rideEndsRow.holds Try.pinned (OpenSpec.ofChange rideEndsSpec)

/-- ITS FALSE NEIGHBOUR: 'it returns false'. Refute it at one input. -/
def rideEndsWrong : ChangeSpec := { name := "rideEnds", fn := fun _ => fun
  | [d1, d2, d3, d4] => { results := [.lit (.bool false)], args := [d1, d2, d3, d4] }
  | _ => none }
def RideEndsWrongFalsely : Prop := rideEndsRow.holds Try.pinned (OpenSpec.ofChange rideEndsWrong)

/-- 'liftwelllaw20.RideRenews': WHATEVER THE INPUT: true; the input reads as it did. -/
def rideRenewsSpec : ChangeSpec := { name := "rideRenews", fn := fun _ => fun
  | [d1, d2, d3, d4, d5] => { results := [.lit (.bool true)], args := [d1, d2, d3, d4, d5] }
  | _ => none }
def rideRenewsRow : OpenClaim := { program := "ytggafipgfgbbiaa", sum := "66aab98b913a202ad4567b4964f4a03c2feb92ab8c8fdb349af2fb4ebcde6448", func := "liftwell/liftwelllaw20.RideRenews", spec := "rideRenews", apart := false }
def RideRenewsSaid : Prop := rideRenewsRow.holds Try.pinned (OpenSpec.ofChange rideRenewsSpec)

/-- ITS FALSE NEIGHBOUR: 'it returns false'. Refute it at one input. -/
def rideRenewsWrong : ChangeSpec := { name := "rideRenews", fn := fun _ => fun
  | [d1, d2, d3, d4, d5] => { results := [.lit (.bool false)], args := [d1, d2, d3, d4, d5] }
  | _ => none }
def RideRenewsWrongFalsely : Prop := rideRenewsRow.holds Try.pinned (OpenSpec.ofChange rideRenewsWrong)

/- THE SECOND FORM. 'bulk': how many values and letters a reading holds, each counted each time it is reached (what is shared counts as often as it is met; a slice's spare places count too). A statement '..UptoSaid' is the law's where the arguments, and the package variables that the reading takes, are together of bulk at most 1048576: NARROWER than '..Said'. Prove '..Said' where nothing that the law and all that it calls make is longer than what came in: it says more and counts as full. Else prove '..UptoSaid'. A law counts once. -/
mutual
def uptoBulk {H : Type} : DataW H → Nat
  | .lit (.string bytes) => bytes.length + 1
  | .lit _ => 1
  | .nil => 1
  | .ptr d => uptoBulk d + 1
  | .slice elems spare => uptoBulkAll elems + uptoBulkAll spare + 1
  | .agg parts => uptoBulkAll parts + 1
  | .iface _ d => uptoBulk d + 1
  | .map entries => uptoBulkEntries entries + 1
  | .held _ => 1
def uptoBulkAll {H : Type} : List (DataW H) → Nat
  | [] => 0
  | d :: r => uptoBulk d + uptoBulkAll r
def uptoBulkEntries {H : Type} : List (Lit × DataW H) → Nat
  | [] => 0
  | x :: r => uptoBulkEntry x + uptoBulkEntries r
def uptoBulkEntry {H : Type} : Lit × DataW H → Nat
  | (.string bytes, d) => bytes.length + uptoBulk d + 1
  | (_, d) => uptoBulk d + 1
 end
def uptoSmall : (H : Type) → List (DataW H) → Bool := fun _ ds => decide (uptoBulkAll ds ≤ 1048576)
def OpenSpec.upto (s : _root_.Go.ChangeSpec) : _root_.Go.OpenSpec := { _root_.Go.OpenSpec.ofChange s with cond := some uptoSmall }

/-- 'liftwelllaw17.FleetCounts', WHERE WHAT IT READS IS OF BULK AT MOST 1048576: true; the input reads as it did. -/
def fleetCountsUptoRow : OpenClaim := { program := "ytggafipgfgbbiaa", sum := "66aab98b913a202ad4567b4964f4a03c2feb92ab8c8fdb349af2fb4ebcde6448", func := "liftwell/liftwelllaw17.FleetCounts", spec := "fleetCounts", apart := false, narrowed := true }
def FleetCountsUptoSaid : Prop := fleetCountsUptoRow.holds Try.pinned (OpenSpec.upto fleetCountsSpec)

/-- 'liftwelllaw17.FleetMay', WHERE WHAT IT READS IS OF BULK AT MOST 1048576: true; the input reads as it did. -/
def fleetMayUptoRow : OpenClaim := { program := "ytggafipgfgbbiaa", sum := "66aab98b913a202ad4567b4964f4a03c2feb92ab8c8fdb349af2fb4ebcde6448", func := "liftwell/liftwelllaw17.FleetMay", spec := "fleetMay", apart := false, narrowed := true }
def FleetMayUptoSaid : Prop := fleetMayUptoRow.holds Try.pinned (OpenSpec.upto fleetMaySpec)

/-- 'liftwelllaw18.QueuePlays', WHERE WHAT IT READS IS OF BULK AT MOST 1048576: true; the input reads as it did. -/
def queuePlaysUptoRow : OpenClaim := { program := "ytggafipgfgbbiaa", sum := "66aab98b913a202ad4567b4964f4a03c2feb92ab8c8fdb349af2fb4ebcde6448", func := "liftwell/liftwelllaw18.QueuePlays", spec := "queuePlays", apart := false, narrowed := true }
def QueuePlaysUptoSaid : Prop := queuePlaysUptoRow.holds Try.pinned (OpenSpec.upto queuePlaysSpec)

/-- 'liftwelllaw18.QueueFair', WHERE WHAT IT READS IS OF BULK AT MOST 1048576: true; the input reads as it did. -/
def queueFairUptoRow : OpenClaim := { program := "ytggafipgfgbbiaa", sum := "66aab98b913a202ad4567b4964f4a03c2feb92ab8c8fdb349af2fb4ebcde6448", func := "liftwell/liftwelllaw18.QueueFair", spec := "queueFair", apart := false, narrowed := true }
def QueueFairUptoSaid : Prop := queueFairUptoRow.holds Try.pinned (OpenSpec.upto queueFairSpec)

/-- 'liftwelllaw18.QueueNone', WHERE WHAT IT READS IS OF BULK AT MOST 1048576: true; the input reads as it did. -/
def queueNoneUptoRow : OpenClaim := { program := "ytggafipgfgbbiaa", sum := "66aab98b913a202ad4567b4964f4a03c2feb92ab8c8fdb349af2fb4ebcde6448", func := "liftwell/liftwelllaw18.QueueNone", spec := "queueNone", apart := false, narrowed := true }
def QueueNoneUptoSaid : Prop := queueNoneUptoRow.holds Try.pinned (OpenSpec.upto queueNoneSpec)

/-- 'liftwelllaw19.LeasePlays', WHERE WHAT IT READS IS OF BULK AT MOST 1048576: true; the input reads as it did. -/
def leasePlaysUptoRow : OpenClaim := { program := "ytggafipgfgbbiaa", sum := "66aab98b913a202ad4567b4964f4a03c2feb92ab8c8fdb349af2fb4ebcde6448", func := "liftwell/liftwelllaw19.LeasePlays", spec := "leasePlays", unfollowed := true, recurses := true, apart := false, narrowed := true }
def LeasePlaysUptoSaid : Prop := leasePlaysUptoRow.holds Try.pinned (OpenSpec.upto leasePlaysSpec)

/-- 'liftwelllaw19.LeaseTimes', WHERE WHAT IT READS IS OF BULK AT MOST 1048576: true; the input reads as it did. -/
def leaseTimesUptoRow : OpenClaim := { program := "ytggafipgfgbbiaa", sum := "66aab98b913a202ad4567b4964f4a03c2feb92ab8c8fdb349af2fb4ebcde6448", func := "liftwell/liftwelllaw19.LeaseTimes", spec := "leaseTimes", unfollowed := true, recurses := true, apart := false, narrowed := true }
def LeaseTimesUptoSaid : Prop := leaseTimesUptoRow.holds Try.pinned (OpenSpec.upto leaseTimesSpec)

/-- 'liftwelllaw19.LeaseNone', WHERE WHAT IT READS IS OF BULK AT MOST 1048576: true; the input reads as it did. -/
def leaseNoneUptoRow : OpenClaim := { program := "ytggafipgfgbbiaa", sum := "66aab98b913a202ad4567b4964f4a03c2feb92ab8c8fdb349af2fb4ebcde6448", func := "liftwell/liftwelllaw19.LeaseNone", spec := "leaseNone", unfollowed := true, recurses := true, apart := false, narrowed := true }
def LeaseNoneUptoSaid : Prop := leaseNoneUptoRow.holds Try.pinned (OpenSpec.upto leaseNoneSpec)

/-- 'liftwelllaw20.RideTicks', WHERE WHAT IT READS IS OF BULK AT MOST 1048576: true; the input reads as it did. -/
def rideTicksUptoRow : OpenClaim := { program := "ytggafipgfgbbiaa", sum := "66aab98b913a202ad4567b4964f4a03c2feb92ab8c8fdb349af2fb4ebcde6448", func := "liftwell/liftwelllaw20.RideTicks", spec := "rideTicks", apart := false, narrowed := true }
def RideTicksUptoSaid : Prop := rideTicksUptoRow.holds Try.pinned (OpenSpec.upto rideTicksSpec)

/-- 'liftwelllaw20.RideHears', WHERE WHAT IT READS IS OF BULK AT MOST 1048576: true; the input reads as it did. -/
def rideHearsUptoRow : OpenClaim := { program := "ytggafipgfgbbiaa", sum := "66aab98b913a202ad4567b4964f4a03c2feb92ab8c8fdb349af2fb4ebcde6448", func := "liftwell/liftwelllaw20.RideHears", spec := "rideHears", apart := false, narrowed := true }
def RideHearsUptoSaid : Prop := rideHearsUptoRow.holds Try.pinned (OpenSpec.upto rideHearsSpec)

/-- 'liftwelllaw20.RidePhases', WHERE WHAT IT READS IS OF BULK AT MOST 1048576: true; the input reads as it did. -/
def ridePhasesUptoRow : OpenClaim := { program := "ytggafipgfgbbiaa", sum := "66aab98b913a202ad4567b4964f4a03c2feb92ab8c8fdb349af2fb4ebcde6448", func := "liftwell/liftwelllaw20.RidePhases", spec := "ridePhases", apart := false, narrowed := true }
def RidePhasesUptoSaid : Prop := ridePhasesUptoRow.holds Try.pinned (OpenSpec.upto ridePhasesSpec)

/-- 'liftwelllaw20.RideEnds', WHERE WHAT IT READS IS OF BULK AT MOST 1048576: true; the input reads as it did. -/
def rideEndsUptoRow : OpenClaim := { program := "ytggafipgfgbbiaa", sum := "66aab98b913a202ad4567b4964f4a03c2feb92ab8c8fdb349af2fb4ebcde6448", func := "liftwell/liftwelllaw20.RideEnds", spec := "rideEnds", apart := false, narrowed := true }
def RideEndsUptoSaid : Prop := rideEndsUptoRow.holds Try.pinned (OpenSpec.upto rideEndsSpec)

/-- 'liftwelllaw20.RideRenews', WHERE WHAT IT READS IS OF BULK AT MOST 1048576: true; the input reads as it did. -/
def rideRenewsUptoRow : OpenClaim := { program := "ytggafipgfgbbiaa", sum := "66aab98b913a202ad4567b4964f4a03c2feb92ab8c8fdb349af2fb4ebcde6448", func := "liftwell/liftwelllaw20.RideRenews", spec := "rideRenews", apart := false, narrowed := true }
def RideRenewsUptoSaid : Prop := rideRenewsUptoRow.holds Try.pinned (OpenSpec.upto rideRenewsSpec)

end Rows
end Go.Proofs.Ytggafipgfgbbiaa
