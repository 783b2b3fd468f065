/-
  No cell of these rows narrows 'for every input' (looked for: loops, veiled, ifaces, maps, wideKeys, modest, calm, conditions, laid).
  DERIVED. THE GIVEN ROWS OF THIS SEAT. 9 by the template 'for every input the law returns true; each argument reads behind the call as it read before'; 0 by the template 'total and deterministic' (their statements: YtlihhjcneedgnaaTotals.lean).
  GIVEN WITH THE SEED: the statements are not yours to turn. If you find one false, say at which input.
  Laid BY PROGRAM, IN A SANDBOX (cutbox-rows.mjs): the forced cells as the released guide's own fill.sh prints them over the translation 260c28417fb82071… (all of the seat's roots in one cut). By AI agents, Wed Nov 11 2026. No macro, syntax, notation, axiom, sorry.
-/
import Derived.Test.YtlihhjcneedgnaaChecked
import GoSem.Claim
import GoSem.ClaimJoined
import GoSem.ClaimMapViews
import Derived.JoinedTies
import Derived.KernelRfl
namespace Go.Proofs.Ytlihhjcneedgnaa
/- THE CELL 'sum', in the pinned program and in every row, IS THE sha256 OF THE DUMP (.gsa) THAT YtlihhjcneedgnaaProg.lean LOADS. Nothing in Lean hashes anything: it is a label: what it is worth is what the hold of that sum in a sandbox is worth. -/
noncomputable def Try.pinned : Pinned := { name := "ytlihhjcneedgnaa", sum := "260c28417fb820717ca4ffcd689ef7e9a7d0c53edcf1d512d6a51eade93e74db", checked := Try.checked }
namespace Rows
def none {H : Type} : Left H := { results := [], args := [] }

/-- 'liftwelllaw06.LinkOrder': WHATEVER THE INPUT: true; the input reads as it did. -/
def linkOrderSpec : ChangeSpec := { name := "linkOrder", fn := fun _ => fun
  | [d] => { results := [.lit (.bool true)], args := [d] }
  | _ => none }
def linkOrderRow : OpenClaim := { program := "ytlihhjcneedgnaa", sum := "260c28417fb820717ca4ffcd689ef7e9a7d0c53edcf1d512d6a51eade93e74db", func := "liftwell/liftwelllaw06.LinkOrder", spec := "linkOrder", apart := false }
def LinkOrderSaid : Prop := linkOrderRow.holds Try.pinned (OpenSpec.ofChange linkOrderSpec)

/-- ITS FALSE NEIGHBOUR: 'it returns false'. Refute it at one input. -/
def linkOrderWrong : ChangeSpec := { name := "linkOrder", fn := fun _ => fun
  | [d] => { results := [.lit (.bool false)], args := [d] }
  | _ => none }
def LinkOrderWrongFalsely : Prop := linkOrderRow.holds Try.pinned (OpenSpec.ofChange linkOrderWrong)

/-- 'liftwelllaw06.LinkAll': WHATEVER THE INPUT: true; the input reads as it did. -/
def linkAllSpec : ChangeSpec := { name := "linkAll", fn := fun _ => fun
  | [d1, d2] => { results := [.lit (.bool true)], args := [d1, d2] }
  | _ => none }
def linkAllRow : OpenClaim := { program := "ytlihhjcneedgnaa", sum := "260c28417fb820717ca4ffcd689ef7e9a7d0c53edcf1d512d6a51eade93e74db", func := "liftwell/liftwelllaw06.LinkAll", spec := "linkAll", apart := false }
def LinkAllSaid : Prop := linkAllRow.holds Try.pinned (OpenSpec.ofChange linkAllSpec)

/-- ITS FALSE NEIGHBOUR: 'it returns false'. Refute it at one input. -/
def linkAllWrong : ChangeSpec := { name := "linkAll", fn := fun _ => fun
  | [d1, d2] => { results := [.lit (.bool false)], args := [d1, d2] }
  | _ => none }
def LinkAllWrongFalsely : Prop := linkAllRow.holds Try.pinned (OpenSpec.ofChange linkAllWrong)

/-- 'liftwelllaw06.LinkNone': WHATEVER THE INPUT: true; the input reads as it did. -/
def linkNoneSpec : ChangeSpec := { name := "linkNone", fn := fun _ => fun
  | [d1, d2, d3] => { results := [.lit (.bool true)], args := [d1, d2, d3] }
  | _ => none }
def linkNoneRow : OpenClaim := { program := "ytlihhjcneedgnaa", sum := "260c28417fb820717ca4ffcd689ef7e9a7d0c53edcf1d512d6a51eade93e74db", func := "liftwell/liftwelllaw06.LinkNone", spec := "linkNone", apart := false }
def LinkNoneSaid : Prop := linkNoneRow.holds Try.pinned (OpenSpec.ofChange linkNoneSpec)

/-- ITS FALSE NEIGHBOUR: 'it returns false'. Refute it at one input. -/
def linkNoneWrong : ChangeSpec := { name := "linkNone", fn := fun _ => fun
  | [d1, d2, d3] => { results := [.lit (.bool false)], args := [d1, d2, d3] }
  | _ => none }
def LinkNoneWrongFalsely : Prop := linkNoneRow.holds Try.pinned (OpenSpec.ofChange linkNoneWrong)

/-- 'liftwelllaw07.NetPlays': WHATEVER THE INPUT: true; the input reads as it did. -/
def netPlaysSpec : ChangeSpec := { name := "netPlays", fn := fun _ => fun
  | [d1, d2, d3] => { results := [.lit (.bool true)], args := [d1, d2, d3] }
  | _ => none }
def netPlaysRow : OpenClaim := { program := "ytlihhjcneedgnaa", sum := "260c28417fb820717ca4ffcd689ef7e9a7d0c53edcf1d512d6a51eade93e74db", func := "liftwell/liftwelllaw07.NetPlays", spec := "netPlays", apart := false }
def NetPlaysSaid : Prop := netPlaysRow.holds Try.pinned (OpenSpec.ofChange netPlaysSpec)

/-- ITS FALSE NEIGHBOUR: 'it returns false'. Refute it at one input. -/
def netPlaysWrong : ChangeSpec := { name := "netPlays", fn := fun _ => fun
  | [d1, d2, d3] => { results := [.lit (.bool false)], args := [d1, d2, d3] }
  | _ => none }
def NetPlaysWrongFalsely : Prop := netPlaysRow.holds Try.pinned (OpenSpec.ofChange netPlaysWrong)

/-- 'liftwelllaw07.NetNone': WHATEVER THE INPUT: true; the input reads as it did. -/
def netNoneSpec : ChangeSpec := { name := "netNone", fn := fun _ => fun
  | [d1, d2, d3] => { results := [.lit (.bool true)], args := [d1, d2, d3] }
  | _ => none }
def netNoneRow : OpenClaim := { program := "ytlihhjcneedgnaa", sum := "260c28417fb820717ca4ffcd689ef7e9a7d0c53edcf1d512d6a51eade93e74db", func := "liftwell/liftwelllaw07.NetNone", spec := "netNone", apart := false }
def NetNoneSaid : Prop := netNoneRow.holds Try.pinned (OpenSpec.ofChange netNoneSpec)

/-- ITS FALSE NEIGHBOUR: 'it returns false'. Refute it at one input. -/
def netNoneWrong : ChangeSpec := { name := "netNone", fn := fun _ => fun
  | [d1, d2, d3] => { results := [.lit (.bool false)], args := [d1, d2, d3] }
  | _ => none }
def NetNoneWrongFalsely : Prop := netNoneRow.holds Try.pinned (OpenSpec.ofChange netNoneWrong)

/-- 'liftwelllaw14.CarctlSafe': WHATEVER THE INPUT: true; the input reads as it did. -/
def carctlSafeSpec : ChangeSpec := { name := "carctlSafe", fn := fun _ => fun
  | [d1, d2, d3] => { results := [.lit (.bool true)], args := [d1, d2, d3] }
  | _ => none }
def carctlSafeRow : OpenClaim := { program := "ytlihhjcneedgnaa", sum := "260c28417fb820717ca4ffcd689ef7e9a7d0c53edcf1d512d6a51eade93e74db", func := "liftwell/liftwelllaw14.CarctlSafe", spec := "carctlSafe", unfollowed := true, recurses := true, apart := false }
def CarctlSafeSaid : Prop := carctlSafeRow.holds Try.pinned (OpenSpec.ofChange carctlSafeSpec)

/-- ITS FALSE NEIGHBOUR: 'it returns false'. Refute it at one input. -/
def carctlSafeWrong : ChangeSpec := { name := "carctlSafe", fn := fun _ => fun
  | [d1, d2, d3] => { results := [.lit (.bool false)], args := [d1, d2, d3] }
  | _ => none }
def CarctlSafeWrongFalsely : Prop := carctlSafeRow.holds Try.pinned (OpenSpec.ofChange carctlSafeWrong)

/-- 'liftwelllaw14.CarctlHolds': WHATEVER THE INPUT: true; the input reads as it did. -/
def carctlHoldsSpec : ChangeSpec := { name := "carctlHolds", fn := fun _ => fun
  | [d1, d2, d3, d4] => { results := [.lit (.bool true)], args := [d1, d2, d3, d4] }
  | _ => none }
def carctlHoldsRow : OpenClaim := { program := "ytlihhjcneedgnaa", sum := "260c28417fb820717ca4ffcd689ef7e9a7d0c53edcf1d512d6a51eade93e74db", func := "liftwell/liftwelllaw14.CarctlHolds", spec := "carctlHolds", unfollowed := true, recurses := true, apart := false }
def CarctlHoldsSaid : Prop := carctlHoldsRow.holds Try.pinned (OpenSpec.ofChange carctlHoldsSpec)

/-- ITS FALSE NEIGHBOUR: 'it returns false'. Refute it at one input. -/
def carctlHoldsWrong : ChangeSpec := { name := "carctlHolds", fn := fun _ => fun
  | [d1, d2, d3, d4] => { results := [.lit (.bool false)], args := [d1, d2, d3, d4] }
  | _ => none }
def CarctlHoldsWrongFalsely : Prop := carctlHoldsRow.holds Try.pinned (OpenSpec.ofChange carctlHoldsWrong)

/-- 'liftwelllaw14.CarctlGoes': WHATEVER THE INPUT: true; the input reads as it did. -/
def carctlGoesSpec : ChangeSpec := { name := "carctlGoes", fn := fun _ => fun
  | [d1, d2, d3] => { results := [.lit (.bool true)], args := [d1, d2, d3] }
  | _ => none }
def carctlGoesRow : OpenClaim := { program := "ytlihhjcneedgnaa", sum := "260c28417fb820717ca4ffcd689ef7e9a7d0c53edcf1d512d6a51eade93e74db", func := "liftwell/liftwelllaw14.CarctlGoes", spec := "carctlGoes", unfollowed := true, recurses := true, apart := false }
def CarctlGoesSaid : Prop := carctlGoesRow.holds Try.pinned (OpenSpec.ofChange carctlGoesSpec)

/-- ITS FALSE NEIGHBOUR: 'it returns false'. Refute it at one input. -/
def carctlGoesWrong : ChangeSpec := { name := "carctlGoes", fn := fun _ => fun
  | [d1, d2, d3] => { results := [.lit (.bool false)], args := [d1, d2, d3] }
  | _ => none }
def CarctlGoesWrongFalsely : Prop := carctlGoesRow.holds Try.pinned (OpenSpec.ofChange carctlGoesWrong)

/-- 'liftwelllaw14.CarctlServes': WHATEVER THE INPUT: true; the input reads as it did. -/
def carctlServesSpec : ChangeSpec := { name := "carctlServes", fn := fun _ => fun
  | [d1, d2] => { results := [.lit (.bool true)], args := [d1, d2] }
  | _ => none }
def carctlServesRow : OpenClaim := { program := "ytlihhjcneedgnaa", sum := "260c28417fb820717ca4ffcd689ef7e9a7d0c53edcf1d512d6a51eade93e74db", func := "liftwell/liftwelllaw14.CarctlServes", spec := "carctlServes", unfollowed := true, recurses := true, apart := false }
def CarctlServesSaid : Prop := carctlServesRow.holds Try.pinned (OpenSpec.ofChange carctlServesSpec)

/-- ITS FALSE NEIGHBOUR: 'it returns false'. Refute it at one input. -/
def carctlServesWrong : ChangeSpec := { name := "carctlServes", fn := fun _ => fun
  | [d1, d2] => { results := [.lit (.bool false)], args := [d1, d2] }
  | _ => none }
def CarctlServesWrongFalsely : Prop := carctlServesRow.holds Try.pinned (OpenSpec.ofChange carctlServesWrong)

/- THE SECOND FORM. 'bulk': how many values and letters a reading holds, each counted each time it is reached (what is shared counts as often as it is met; a slice's spare places count too). A statement '..UptoSaid' is the law's where the arguments, and the package variables that the reading takes, are together of bulk at most 1048576: NARROWER than '..Said'. Prove '..Said' where nothing that the law and all that it calls make is longer than what came in: it says more and counts as full. Else prove '..UptoSaid'. A law counts once. -/
mutual
def uptoBulk {H : Type} : DataW H → Nat
  | .lit (.string bytes) => bytes.length + 1
  | .lit _ => 1
  | .nil => 1
  | .ptr d => uptoBulk d + 1
  | .slice elems spare => uptoBulkAll elems + uptoBulkAll spare + 1
  | .agg parts => uptoBulkAll parts + 1
  | .iface _ d => uptoBulk d + 1
  | .map entries => uptoBulkEntries entries + 1
  | .held _ => 1
def uptoBulkAll {H : Type} : List (DataW H) → Nat
  | [] => 0
  | d :: r => uptoBulk d + uptoBulkAll r
def uptoBulkEntries {H : Type} : List (Lit × DataW H) → Nat
  | [] => 0
  | x :: r => uptoBulkEntry x + uptoBulkEntries r
def uptoBulkEntry {H : Type} : Lit × DataW H → Nat
  | (.string bytes, d) => bytes.length + uptoBulk d + 1
  | (_, d) => uptoBulk d + 1
 end
def uptoSmall : (H : Type) → List (DataW H) → Bool := fun _ ds => decide (uptoBulkAll ds ≤ 1048576)
def OpenSpec.upto (s : _root_.Go.ChangeSpec) : _root_.Go.OpenSpec := { _root_.Go.OpenSpec.ofChange s with cond := some uptoSmall }

/-- 'liftwelllaw06.LinkOrder', WHERE WHAT IT READS IS OF BULK AT MOST 1048576: true; the input reads as it did. -/
def linkOrderUptoRow : OpenClaim := { program := "ytlihhjcneedgnaa", sum := "260c28417fb820717ca4ffcd689ef7e9a7d0c53edcf1d512d6a51eade93e74db", func := "liftwell/liftwelllaw06.LinkOrder", spec := "linkOrder", apart := false, narrowed := true }
def LinkOrderUptoSaid : Prop := linkOrderUptoRow.holds Try.pinned (OpenSpec.upto linkOrderSpec)

/-- 'liftwelllaw06.LinkAll', WHERE WHAT IT READS IS OF BULK AT MOST 1048576: true; the input reads as it did. -/
def linkAllUptoRow : OpenClaim := { program := "ytlihhjcneedgnaa", sum := "260c28417fb820717ca4ffcd689ef7e9a7d0c53edcf1d512d6a51eade93e74db", func := "liftwell/liftwelllaw06.LinkAll", spec := "linkAll", apart := false, narrowed := true }
def LinkAllUptoSaid : Prop := linkAllUptoRow.holds Try.pinned (OpenSpec.upto linkAllSpec)

/-- 'liftwelllaw06.LinkNone', WHERE WHAT IT READS IS OF BULK AT MOST 1048576: true; the input reads as it did. -/
def linkNoneUptoRow : OpenClaim := { program := "ytlihhjcneedgnaa", sum := "260c28417fb820717ca4ffcd689ef7e9a7d0c53edcf1d512d6a51eade93e74db", func := "liftwell/liftwelllaw06.LinkNone", spec := "linkNone", apart := false, narrowed := true }
def LinkNoneUptoSaid : Prop := linkNoneUptoRow.holds Try.pinned (OpenSpec.upto linkNoneSpec)

/-- 'liftwelllaw07.NetPlays', WHERE WHAT IT READS IS OF BULK AT MOST 1048576: true; the input reads as it did. -/
def netPlaysUptoRow : OpenClaim := { program := "ytlihhjcneedgnaa", sum := "260c28417fb820717ca4ffcd689ef7e9a7d0c53edcf1d512d6a51eade93e74db", func := "liftwell/liftwelllaw07.NetPlays", spec := "netPlays", apart := false, narrowed := true }
def NetPlaysUptoSaid : Prop := netPlaysUptoRow.holds Try.pinned (OpenSpec.upto netPlaysSpec)

/-- 'liftwelllaw07.NetNone', WHERE WHAT IT READS IS OF BULK AT MOST 1048576: true; the input reads as it did. -/
def netNoneUptoRow : OpenClaim := { program := "ytlihhjcneedgnaa", sum := "260c28417fb820717ca4ffcd689ef7e9a7d0c53edcf1d512d6a51eade93e74db", func := "liftwell/liftwelllaw07.NetNone", spec := "netNone", apart := false, narrowed := true }
def NetNoneUptoSaid : Prop := netNoneUptoRow.holds Try.pinned (OpenSpec.upto netNoneSpec)

/-- 'liftwelllaw14.CarctlSafe', WHERE WHAT IT READS IS OF BULK AT MOST 1048576: true; the input reads as it did. -/
def carctlSafeUptoRow : OpenClaim := { program := "ytlihhjcneedgnaa", sum := "260c28417fb820717ca4ffcd689ef7e9a7d0c53edcf1d512d6a51eade93e74db", func := "liftwell/liftwelllaw14.CarctlSafe", spec := "carctlSafe", unfollowed := true, recurses := true, apart := false, narrowed := true }
def CarctlSafeUptoSaid : Prop := carctlSafeUptoRow.holds Try.pinned (OpenSpec.upto carctlSafeSpec)

/-- 'liftwelllaw14.CarctlHolds', WHERE WHAT IT READS IS OF BULK AT MOST 1048576: true; the input reads as it did. -/
def carctlHoldsUptoRow : OpenClaim := { program := "ytlihhjcneedgnaa", sum := "260c28417fb820717ca4ffcd689ef7e9a7d0c53edcf1d512d6a51eade93e74db", func := "liftwell/liftwelllaw14.CarctlHolds", spec := "carctlHolds", unfollowed := true, recurses := true, apart := false, narrowed := true }
def CarctlHoldsUptoSaid : Prop := carctlHoldsUptoRow.holds Try.pinned (OpenSpec.upto carctlHoldsSpec)

/-- 'liftwelllaw14.CarctlGoes', WHERE WHAT IT READS IS OF BULK AT MOST 1048576: true; the input reads as it did. -/
def carctlGoesUptoRow : OpenClaim := { program := "ytlihhjcneedgnaa", sum := "260c28417fb820717ca4ffcd689ef7e9a7d0c53edcf1d512d6a51eade93e74db", func := "liftwell/liftwelllaw14.CarctlGoes", spec := "carctlGoes", unfollowed := true, recurses := true, apart := false, narrowed := true }
def CarctlGoesUptoSaid : Prop := carctlGoesUptoRow.holds Try.pinned (OpenSpec.upto carctlGoesSpec)

/-- 'liftwelllaw14.CarctlServes', WHERE WHAT IT READS IS OF BULK AT MOST 1048576: true; the input reads as it did. -/
def carctlServesUptoRow : OpenClaim := { program := "ytlihhjcneedgnaa", sum := "260c28417fb820717ca4ffcd689ef7e9a7d0c53edcf1d512d6a51eade93e74db", func := "liftwell/liftwelllaw14.CarctlServes", spec := "carctlServes", unfollowed := true, recurses := true, apart := false, narrowed := true }
def CarctlServesUptoSaid : Prop := carctlServesUptoRow.holds Try.pinned (OpenSpec.upto carctlServesSpec)

end Rows
end Go.Proofs.Ytlihhjcneedgnaa
