/-
  No cell of these rows narrows 'for every input' (looked for: loops, veiled, ifaces, maps, wideKeys, modest, calm, conditions, laid).
  DERIVED. THE GIVEN ROWS OF THIS SEAT. 6 by the template 'for every input the law returns true; each argument reads behind the call as it read before'; 0 by the template 'total and deterministic' (their statements: YtpacieocmogjeaaTotals.lean).
  GIVEN WITH THE SEED: the statements are not yours to turn. If you find one false, say at which input.
  Laid BY PROGRAM, IN A SANDBOX (cutbox-rows.mjs): the forced cells as the released guide's own fill.sh prints them over the translation 8c154d79f3472316… (all of the seat's roots in one cut). By AI agents, Wed Nov 11 2026. No macro, syntax, notation, axiom, sorry.
-/
import Derived.Test.YtpacieocmogjeaaChecked
import GoSem.Claim
import GoSem.ClaimJoined
import GoSem.ClaimMapViews
import Derived.JoinedTies
import Derived.KernelRfl
namespace Go.Proofs.Ytpacieocmogjeaa
/- THE CELL 'sum', in the pinned program and in every row, IS THE sha256 OF THE DUMP (.gsa) THAT YtpacieocmogjeaaProg.lean LOADS. Nothing in Lean hashes anything: it is a label: what it is worth is what the hold of that sum in a sandbox is worth. -/
noncomputable def Try.pinned : Pinned := { name := "ytpacieocmogjeaa", sum := "8c154d79f3472316a3201c556a3d37e7ea90ef22e4166ec9f0f2c5ff1bc378b4", checked := Try.checked }
namespace Rows
def none {H : Type} : Left H := { results := [], args := [] }

/-- 'liftwelllaw15.EtaCosts': WHATEVER THE INPUT: true; the input reads as it did. -/
def etaCostsSpec : ChangeSpec := { name := "etaCosts", fn := fun _ => fun
  | [d1, d2, d3] => { results := [.lit (.bool true)], args := [d1, d2, d3] }
  | _ => none }
def etaCostsRow : OpenClaim := { program := "ytpacieocmogjeaa", sum := "8c154d79f3472316a3201c556a3d37e7ea90ef22e4166ec9f0f2c5ff1bc378b4", func := "liftwell/liftwelllaw15.EtaCosts", spec := "etaCosts", apart := false }
def EtaCostsSaid : Prop := etaCostsRow.holds Try.pinned (OpenSpec.ofChange etaCostsSpec)

/-- ITS FALSE NEIGHBOUR: 'it returns false'. Refute it at one input. -/
def etaCostsWrong : ChangeSpec := { name := "etaCosts", fn := fun _ => fun
  | [d1, d2, d3] => { results := [.lit (.bool false)], args := [d1, d2, d3] }
  | _ => none }
def EtaCostsWrongFalsely : Prop := etaCostsRow.holds Try.pinned (OpenSpec.ofChange etaCostsWrong)

/-- 'liftwelllaw15.EtaBest': WHATEVER THE INPUT: true; the input reads as it did. -/
def etaBestSpec : ChangeSpec := { name := "etaBest", fn := fun _ => fun
  | [d1, d2, d3] => { results := [.lit (.bool true)], args := [d1, d2, d3] }
  | _ => none }
def etaBestRow : OpenClaim := { program := "ytpacieocmogjeaa", sum := "8c154d79f3472316a3201c556a3d37e7ea90ef22e4166ec9f0f2c5ff1bc378b4", func := "liftwell/liftwelllaw15.EtaBest", spec := "etaBest", apart := false }
def EtaBestSaid : Prop := etaBestRow.holds Try.pinned (OpenSpec.ofChange etaBestSpec)

/-- ITS FALSE NEIGHBOUR: 'it returns false'. Refute it at one input. -/
def etaBestWrong : ChangeSpec := { name := "etaBest", fn := fun _ => fun
  | [d1, d2, d3] => { results := [.lit (.bool false)], args := [d1, d2, d3] }
  | _ => none }
def EtaBestWrongFalsely : Prop := etaBestRow.holds Try.pinned (OpenSpec.ofChange etaBestWrong)

/-- 'liftwelllaw15.EtaMore': WHATEVER THE INPUT: true; the input reads as it did. -/
def etaMoreSpec : ChangeSpec := { name := "etaMore", fn := fun _ => fun
  | [d1, d2, d3, d4] => { results := [.lit (.bool true)], args := [d1, d2, d3, d4] }
  | _ => none }
def etaMoreRow : OpenClaim := { program := "ytpacieocmogjeaa", sum := "8c154d79f3472316a3201c556a3d37e7ea90ef22e4166ec9f0f2c5ff1bc378b4", func := "liftwell/liftwelllaw15.EtaMore", spec := "etaMore", apart := false }
def EtaMoreSaid : Prop := etaMoreRow.holds Try.pinned (OpenSpec.ofChange etaMoreSpec)

/-- ITS FALSE NEIGHBOUR: 'it returns false'. Refute it at one input. -/
def etaMoreWrong : ChangeSpec := { name := "etaMore", fn := fun _ => fun
  | [d1, d2, d3, d4] => { results := [.lit (.bool false)], args := [d1, d2, d3, d4] }
  | _ => none }
def EtaMoreWrongFalsely : Prop := etaMoreRow.holds Try.pinned (OpenSpec.ofChange etaMoreWrong)

/-- 'liftwelllaw16.GroupSafe': WHATEVER THE INPUT: true; the input reads as it did. -/
def groupSafeSpec : ChangeSpec := { name := "groupSafe", fn := fun _ => fun
  | [d1, d2] => { results := [.lit (.bool true)], args := [d1, d2] }
  | _ => none }
def groupSafeRow : OpenClaim := { program := "ytpacieocmogjeaa", sum := "8c154d79f3472316a3201c556a3d37e7ea90ef22e4166ec9f0f2c5ff1bc378b4", func := "liftwell/liftwelllaw16.GroupSafe", spec := "groupSafe", unfollowed := true, recurses := true, apart := false }
def GroupSafeSaid : Prop := groupSafeRow.holds Try.pinned (OpenSpec.ofChange groupSafeSpec)

/-- ITS FALSE NEIGHBOUR: 'it returns false'. Refute it at one input. -/
def groupSafeWrong : ChangeSpec := { name := "groupSafe", fn := fun _ => fun
  | [d1, d2] => { results := [.lit (.bool false)], args := [d1, d2] }
  | _ => none }
def GroupSafeWrongFalsely : Prop := groupSafeRow.holds Try.pinned (OpenSpec.ofChange groupSafeWrong)

/-- 'liftwelllaw16.GroupGives': WHATEVER THE INPUT: true; the input reads as it did. -/
def groupGivesSpec : ChangeSpec := { name := "groupGives", fn := fun _ => fun
  | [d1, d2] => { results := [.lit (.bool true)], args := [d1, d2] }
  | _ => none }
def groupGivesRow : OpenClaim := { program := "ytpacieocmogjeaa", sum := "8c154d79f3472316a3201c556a3d37e7ea90ef22e4166ec9f0f2c5ff1bc378b4", func := "liftwell/liftwelllaw16.GroupGives", spec := "groupGives", unfollowed := true, recurses := true, apart := false }
def GroupGivesSaid : Prop := groupGivesRow.holds Try.pinned (OpenSpec.ofChange groupGivesSpec)

/-- ITS FALSE NEIGHBOUR: 'it returns false'. Refute it at one input. -/
def groupGivesWrong : ChangeSpec := { name := "groupGives", fn := fun _ => fun
  | [d1, d2] => { results := [.lit (.bool false)], args := [d1, d2] }
  | _ => none }
def GroupGivesWrongFalsely : Prop := groupGivesRow.holds Try.pinned (OpenSpec.ofChange groupGivesWrong)

/-- 'liftwelllaw16.GroupNone': WHATEVER THE INPUT: true; the input reads as it did. -/
def groupNoneSpec : ChangeSpec := { name := "groupNone", fn := fun _ => fun
  | [d] => { results := [.lit (.bool true)], args := [d] }
  | _ => none }
def groupNoneRow : OpenClaim := { program := "ytpacieocmogjeaa", sum := "8c154d79f3472316a3201c556a3d37e7ea90ef22e4166ec9f0f2c5ff1bc378b4", func := "liftwell/liftwelllaw16.GroupNone", spec := "groupNone", unfollowed := true, recurses := true, apart := false }
def GroupNoneSaid : Prop := groupNoneRow.holds Try.pinned (OpenSpec.ofChange groupNoneSpec)

/-- ITS FALSE NEIGHBOUR: 'it returns false'. Refute it at one input. -/
def groupNoneWrong : ChangeSpec := { name := "groupNone", fn := fun _ => fun
  | [d] => { results := [.lit (.bool false)], args := [d] }
  | _ => none }
def GroupNoneWrongFalsely : Prop := groupNoneRow.holds Try.pinned (OpenSpec.ofChange groupNoneWrong)

/- THE SECOND FORM. 'bulk': how many values and letters a reading holds, each counted each time it is reached (what is shared counts as often as it is met; a slice's spare places count too). A statement '..UptoSaid' is the law's where the arguments, and the package variables that the reading takes, are together of bulk at most 1048576: NARROWER than '..Said'. Prove '..Said' where nothing that the law and all that it calls make is longer than what came in: it says more and counts as full. Else prove '..UptoSaid'. A law counts once. -/
mutual
def uptoBulk {H : Type} : DataW H → Nat
  | .lit (.string bytes) => bytes.length + 1
  | .lit _ => 1
  | .nil => 1
  | .ptr d => uptoBulk d + 1
  | .slice elems spare => uptoBulkAll elems + uptoBulkAll spare + 1
  | .agg parts => uptoBulkAll parts + 1
  | .iface _ d => uptoBulk d + 1
  | .map entries => uptoBulkEntries entries + 1
  | .held _ => 1
def uptoBulkAll {H : Type} : List (DataW H) → Nat
  | [] => 0
  | d :: r => uptoBulk d + uptoBulkAll r
def uptoBulkEntries {H : Type} : List (Lit × DataW H) → Nat
  | [] => 0
  | x :: r => uptoBulkEntry x + uptoBulkEntries r
def uptoBulkEntry {H : Type} : Lit × DataW H → Nat
  | (.string bytes, d) => bytes.length + uptoBulk d + 1
  | (_, d) => uptoBulk d + 1
 end
def uptoSmall : (H : Type) → List (DataW H) → Bool := fun _ ds => decide (uptoBulkAll ds ≤ 1048576)
def OpenSpec.upto (s : _root_.Go.ChangeSpec) : _root_.Go.OpenSpec := { _root_.Go.OpenSpec.ofChange s with cond := some uptoSmall }

/-- 'liftwelllaw15.EtaCosts', WHERE WHAT IT READS IS OF BULK AT MOST 1048576: true; the input reads as it did. -/
def etaCostsUptoRow : OpenClaim := { program := "ytpacieocmogjeaa", sum := "8c154d79f3472316a3201c556a3d37e7ea90ef22e4166ec9f0f2c5ff1bc378b4", func := "liftwell/liftwelllaw15.EtaCosts", spec := "etaCosts", apart := false, narrowed := true }
def EtaCostsUptoSaid : Prop := etaCostsUptoRow.holds Try.pinned (OpenSpec.upto etaCostsSpec)

/-- 'liftwelllaw15.EtaBest', WHERE WHAT IT READS IS OF BULK AT MOST 1048576: true; the input reads as it did. -/
def etaBestUptoRow : OpenClaim := { program := "ytpacieocmogjeaa", sum := "8c154d79f3472316a3201c556a3d37e7ea90ef22e4166ec9f0f2c5ff1bc378b4", func := "liftwell/liftwelllaw15.EtaBest", spec := "etaBest", apart := false, narrowed := true }
def EtaBestUptoSaid : Prop := etaBestUptoRow.holds Try.pinned (OpenSpec.upto etaBestSpec)

/-- 'liftwelllaw15.EtaMore', WHERE WHAT IT READS IS OF BULK AT MOST 1048576: true; the input reads as it did. -/
def etaMoreUptoRow : OpenClaim := { program := "ytpacieocmogjeaa", sum := "8c154d79f3472316a3201c556a3d37e7ea90ef22e4166ec9f0f2c5ff1bc378b4", func := "liftwell/liftwelllaw15.EtaMore", spec := "etaMore", apart := false, narrowed := true }
def EtaMoreUptoSaid : Prop := etaMoreUptoRow.holds Try.pinned (OpenSpec.upto etaMoreSpec)

/-- 'liftwelllaw16.GroupSafe', WHERE WHAT IT READS IS OF BULK AT MOST 1048576: true; the input reads as it did. -/
def groupSafeUptoRow : OpenClaim := { program := "ytpacieocmogjeaa", sum := "8c154d79f3472316a3201c556a3d37e7ea90ef22e4166ec9f0f2c5ff1bc378b4", func := "liftwell/liftwelllaw16.GroupSafe", spec := "groupSafe", unfollowed := true, recurses := true, apart := false, narrowed := true }
def GroupSafeUptoSaid : Prop := groupSafeUptoRow.holds Try.pinned (OpenSpec.upto groupSafeSpec)

/-- 'liftwelllaw16.GroupGives', WHERE WHAT IT READS IS OF BULK AT MOST 1048576: true; the input reads as it did. -/
def groupGivesUptoRow : OpenClaim := { program := "ytpacieocmogjeaa", sum := "8c154d79f3472316a3201c556a3d37e7ea90ef22e4166ec9f0f2c5ff1bc378b4", func := "liftwell/liftwelllaw16.GroupGives", spec := "groupGives", unfollowed := true, recurses := true, apart := false, narrowed := true }
def GroupGivesUptoSaid : Prop := groupGivesUptoRow.holds Try.pinned (OpenSpec.upto groupGivesSpec)

/-- 'liftwelllaw16.GroupNone', WHERE WHAT IT READS IS OF BULK AT MOST 1048576: true; the input reads as it did. -/
def groupNoneUptoRow : OpenClaim := { program := "ytpacieocmogjeaa", sum := "8c154d79f3472316a3201c556a3d37e7ea90ef22e4166ec9f0f2c5ff1bc378b4", func := "liftwell/liftwelllaw16.GroupNone", spec := "groupNone", unfollowed := true, recurses := true, apart := false, narrowed := true }
def GroupNoneUptoSaid : Prop := groupNoneUptoRow.holds Try.pinned (OpenSpec.upto groupNoneSpec)

end Rows
end Go.Proofs.Ytpacieocmogjeaa
