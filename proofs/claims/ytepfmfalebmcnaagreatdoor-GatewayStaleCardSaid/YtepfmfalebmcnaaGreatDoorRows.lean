/-
  NARROWER THAN 'FOR EVERY INPUT', by the rows' own cells (each row's printed sentence says how): GatewayStale: laid · GatewaySilent: laid · GatewayParts: laid · GatewayLists: laid · GatewayNone: laid · GatewayHello: laid · WholeOnce: laid · WholeLocked: laid · WholeHolds: laid · WholeEnds: laid · WholeSilent: laid · WholeBusy: laid · WholeAgain: laid.
  DERIVED. THE GIVEN ROWS OF THIS SEAT. 13 by the template 'for every input the law returns true; each argument reads behind the call as it read before'; 0 by the template 'total and deterministic' (their statements: YtepfmfalebmcnaaGreatDoorTotals.lean).
  GIVEN WITH THE SEED: the statements are not yours to turn. If you find one false, say at which input.
  Laid BY PROGRAM, IN A SANDBOX (cutbox-rows.mjs): the forced cells as the released guide's own fill.sh prints them over the translation 0d9af7907ba3f5e8… (all of the seat's roots in one cut). By AI agents, Wed Nov 11 2026. No macro, syntax, notation, axiom, sorry.
-/
import Derived.Test.YtepfmfalebmcnaaGreatDoorChecked
import GoSem.Claim
import GoSem.ClaimJoined
import GoSem.ClaimMapViews
import Derived.JoinedTies
import Derived.KernelRfl
namespace Go.Proofs.YtepfmfalebmcnaaGreatDoor
/- THE CELL 'sum', in the pinned program and in every row, IS THE sha256 OF THE DUMP (.gsa) THAT YtepfmfalebmcnaaGreatDoorProg.lean LOADS. Nothing in Lean hashes anything: it is a label: what it is worth is what the hold of that sum in a sandbox is worth. -/
noncomputable def Tryz.pinned : Pinned := { name := "ytepfmfalebmcnaagreatdoor", sum := "0d9af7907ba3f5e8f17d48cd3501b14dd40353bf08a1bc5ff18a00fb09b798fb", checked := Tryz.checked }
namespace Rows
def none {H : Type} : Left H := { results := [], args := [] }

/- WHAT THE LISTED PACKAGE-LEVEL VARIABLES READ AS WHEN THE CALL BEGINS. Each datum BY PROGRAM (the guide's laid-datum.mjs) off the statement by which the dump's own 'gosem.cut.vars' lays the variable. In a bare row this is a premise. The card (YtepfmfalebmcnaaGreatDoorCards.lean) ties it to the program's text. -/
def laid_math_bits_deBruijn32tab {H : Type} : DataW H := .agg [.lit (.int .u8 0), .lit (.int .u8 1), .lit (.int .u8 28), .lit (.int .u8 2), .lit (.int .u8 29), .lit (.int .u8 14), .lit (.int .u8 24), .lit (.int .u8 3), .lit (.int .u8 30), .lit (.int .u8 22), .lit (.int .u8 20), .lit (.int .u8 15), .lit (.int .u8 25), .lit (.int .u8 17), .lit (.int .u8 4), .lit (.int .u8 8), .lit (.int .u8 31), .lit (.int .u8 27), .lit (.int .u8 13), .lit (.int .u8 23), .lit (.int .u8 21), .lit (.int .u8 19), .lit (.int .u8 16), .lit (.int .u8 7), .lit (.int .u8 26), .lit (.int .u8 12), .lit (.int .u8 18), .lit (.int .u8 6), .lit (.int .u8 11), .lit (.int .u8 5), .lit (.int .u8 10), .lit (.int .u8 9)]
def laid_math_bits_deBruijn64tab {H : Type} : DataW H := .agg [.lit (.int .u8 0), .lit (.int .u8 1), .lit (.int .u8 56), .lit (.int .u8 2), .lit (.int .u8 57), .lit (.int .u8 49), .lit (.int .u8 28), .lit (.int .u8 3), .lit (.int .u8 61), .lit (.int .u8 58), .lit (.int .u8 42), .lit (.int .u8 50), .lit (.int .u8 38), .lit (.int .u8 29), .lit (.int .u8 17), .lit (.int .u8 4), .lit (.int .u8 62), .lit (.int .u8 47), .lit (.int .u8 59), .lit (.int .u8 36), .lit (.int .u8 45), .lit (.int .u8 43), .lit (.int .u8 51), .lit (.int .u8 22), .lit (.int .u8 53), .lit (.int .u8 39), .lit (.int .u8 33), .lit (.int .u8 30), .lit (.int .u8 24), .lit (.int .u8 18), .lit (.int .u8 12), .lit (.int .u8 5), .lit (.int .u8 63), .lit (.int .u8 55), .lit (.int .u8 48), .lit (.int .u8 27), .lit (.int .u8 60), .lit (.int .u8 41), .lit (.int .u8 37), .lit (.int .u8 16), .lit (.int .u8 46), .lit (.int .u8 35), .lit (.int .u8 44), .lit (.int .u8 21), .lit (.int .u8 52), .lit (.int .u8 32), .lit (.int .u8 23), .lit (.int .u8 11), .lit (.int .u8 54), .lit (.int .u8 26), .lit (.int .u8 40), .lit (.int .u8 15), .lit (.int .u8 34), .lit (.int .u8 20), .lit (.int .u8 31), .lit (.int .u8 10), .lit (.int .u8 25), .lit (.int .u8 14), .lit (.int .u8 19), .lit (.int .u8 9), .lit (.int .u8 13), .lit (.int .u8 8), .lit (.int .u8 7), .lit (.int .u8 6)]
def laid_internal_strconv_uint64pow10 {H : Type} : DataW H := .agg [.lit (.int .u64 1), .lit (.int .u64 10), .lit (.int .u64 100), .lit (.int .u64 1000), .lit (.int .u64 10000), .lit (.int .u64 100000), .lit (.int .u64 1000000), .lit (.int .u64 10000000), .lit (.int .u64 100000000), .lit (.int .u64 1000000000), .lit (.int .u64 10000000000), .lit (.int .u64 100000000000), .lit (.int .u64 1000000000000), .lit (.int .u64 10000000000000), .lit (.int .u64 100000000000000), .lit (.int .u64 1000000000000000), .lit (.int .u64 10000000000000000), .lit (.int .u64 100000000000000000), .lit (.int .u64 1000000000000000000), .lit (.int .u64 10000000000000000000)]

/-- 'liftwelllaw22.GatewayStale': WHATEVER THE INPUT: true; the input reads as it did. -/
def gatewayStaleSpec : ChangeSpec := { name := "gatewayStale", fn := fun _ => fun
  | [d1, d2, d3, d4, d5] => { results := [.lit (.bool true)], args := [d1, d2, d3, d4, d5] }
  | _ => none }
def gatewayStaleRow : OpenClaim := { program := "ytepfmfalebmcnaagreatdoor", sum := "0d9af7907ba3f5e8f17d48cd3501b14dd40353bf08a1bc5ff18a00fb09b798fb", func := "liftwell/liftwelllaw22.GatewayStale", spec := "gatewayStale", inPlace := ["internal/abi.NoEscape"], unfollowed := true, recurses := true, named := ["internal/strconv.uint64pow10", "math/bits.deBruijn32tab", "math/bits.deBruijn64tab"], apart := false, laid := [("math/bits.deBruijn32tab", laid_math_bits_deBruijn32tab), ("math/bits.deBruijn64tab", laid_math_bits_deBruijn64tab), ("internal/strconv.uint64pow10", laid_internal_strconv_uint64pow10)] }
def GatewayStaleSaid : Prop := gatewayStaleRow.holds Tryz.pinned (OpenSpec.ofChange gatewayStaleSpec)

/-- ITS FALSE NEIGHBOUR: 'it returns false'. Refute it at one input. -/
def gatewayStaleWrong : ChangeSpec := { name := "gatewayStale", fn := fun _ => fun
  | [d1, d2, d3, d4, d5] => { results := [.lit (.bool false)], args := [d1, d2, d3, d4, d5] }
  | _ => none }
def GatewayStaleWrongFalsely : Prop := gatewayStaleRow.holds Tryz.pinned (OpenSpec.ofChange gatewayStaleWrong)

/-- 'liftwelllaw22.GatewaySilent': WHATEVER THE INPUT: true; the input reads as it did. -/
def gatewaySilentSpec : ChangeSpec := { name := "gatewaySilent", fn := fun _ => fun
  | [d1, d2] => { results := [.lit (.bool true)], args := [d1, d2] }
  | _ => none }
def gatewaySilentRow : OpenClaim := { program := "ytepfmfalebmcnaagreatdoor", sum := "0d9af7907ba3f5e8f17d48cd3501b14dd40353bf08a1bc5ff18a00fb09b798fb", func := "liftwell/liftwelllaw22.GatewaySilent", spec := "gatewaySilent", inPlace := ["internal/abi.NoEscape"], unfollowed := true, recurses := true, named := ["internal/strconv.uint64pow10", "math/bits.deBruijn32tab", "math/bits.deBruijn64tab"], apart := false, laid := [("math/bits.deBruijn32tab", laid_math_bits_deBruijn32tab), ("math/bits.deBruijn64tab", laid_math_bits_deBruijn64tab), ("internal/strconv.uint64pow10", laid_internal_strconv_uint64pow10)] }
def GatewaySilentSaid : Prop := gatewaySilentRow.holds Tryz.pinned (OpenSpec.ofChange gatewaySilentSpec)

/-- ITS FALSE NEIGHBOUR: 'it returns false'. Refute it at one input. -/
def gatewaySilentWrong : ChangeSpec := { name := "gatewaySilent", fn := fun _ => fun
  | [d1, d2] => { results := [.lit (.bool false)], args := [d1, d2] }
  | _ => none }
def GatewaySilentWrongFalsely : Prop := gatewaySilentRow.holds Tryz.pinned (OpenSpec.ofChange gatewaySilentWrong)

/-- 'liftwelllaw22.GatewayParts': WHATEVER THE INPUT: true; the input reads as it did. -/
def gatewayPartsSpec : ChangeSpec := { name := "gatewayParts", fn := fun _ => fun
  | [d1, d2, d3] => { results := [.lit (.bool true)], args := [d1, d2, d3] }
  | _ => none }
def gatewayPartsRow : OpenClaim := { program := "ytepfmfalebmcnaagreatdoor", sum := "0d9af7907ba3f5e8f17d48cd3501b14dd40353bf08a1bc5ff18a00fb09b798fb", func := "liftwell/liftwelllaw22.GatewayParts", spec := "gatewayParts", inPlace := ["internal/abi.NoEscape"], unfollowed := true, recurses := true, named := ["internal/strconv.uint64pow10", "math/bits.deBruijn32tab", "math/bits.deBruijn64tab"], apart := false, laid := [("math/bits.deBruijn32tab", laid_math_bits_deBruijn32tab), ("math/bits.deBruijn64tab", laid_math_bits_deBruijn64tab), ("internal/strconv.uint64pow10", laid_internal_strconv_uint64pow10)] }
def GatewayPartsSaid : Prop := gatewayPartsRow.holds Tryz.pinned (OpenSpec.ofChange gatewayPartsSpec)

/-- ITS FALSE NEIGHBOUR: 'it returns false'. Refute it at one input. -/
def gatewayPartsWrong : ChangeSpec := { name := "gatewayParts", fn := fun _ => fun
  | [d1, d2, d3] => { results := [.lit (.bool false)], args := [d1, d2, d3] }
  | _ => none }
def GatewayPartsWrongFalsely : Prop := gatewayPartsRow.holds Tryz.pinned (OpenSpec.ofChange gatewayPartsWrong)

/-- 'liftwelllaw22.GatewayLists': WHATEVER THE INPUT: true; the input reads as it did. -/
def gatewayListsSpec : ChangeSpec := { name := "gatewayLists", fn := fun _ => fun
  | [d1, d2] => { results := [.lit (.bool true)], args := [d1, d2] }
  | _ => none }
def gatewayListsRow : OpenClaim := { program := "ytepfmfalebmcnaagreatdoor", sum := "0d9af7907ba3f5e8f17d48cd3501b14dd40353bf08a1bc5ff18a00fb09b798fb", func := "liftwell/liftwelllaw22.GatewayLists", spec := "gatewayLists", inPlace := ["internal/abi.NoEscape"], unfollowed := true, recurses := true, named := ["internal/strconv.uint64pow10", "math/bits.deBruijn32tab", "math/bits.deBruijn64tab"], apart := false, laid := [("math/bits.deBruijn32tab", laid_math_bits_deBruijn32tab), ("math/bits.deBruijn64tab", laid_math_bits_deBruijn64tab), ("internal/strconv.uint64pow10", laid_internal_strconv_uint64pow10)] }
def GatewayListsSaid : Prop := gatewayListsRow.holds Tryz.pinned (OpenSpec.ofChange gatewayListsSpec)

/-- ITS FALSE NEIGHBOUR: 'it returns false'. Refute it at one input. -/
def gatewayListsWrong : ChangeSpec := { name := "gatewayLists", fn := fun _ => fun
  | [d1, d2] => { results := [.lit (.bool false)], args := [d1, d2] }
  | _ => none }
def GatewayListsWrongFalsely : Prop := gatewayListsRow.holds Tryz.pinned (OpenSpec.ofChange gatewayListsWrong)

/-- 'liftwelllaw22.GatewayNone': WHATEVER THE INPUT: true; the input reads as it did. -/
def gatewayNoneSpec : ChangeSpec := { name := "gatewayNone", fn := fun _ => fun
  | [d1, d2] => { results := [.lit (.bool true)], args := [d1, d2] }
  | _ => none }
def gatewayNoneRow : OpenClaim := { program := "ytepfmfalebmcnaagreatdoor", sum := "0d9af7907ba3f5e8f17d48cd3501b14dd40353bf08a1bc5ff18a00fb09b798fb", func := "liftwell/liftwelllaw22.GatewayNone", spec := "gatewayNone", inPlace := ["internal/abi.NoEscape"], unfollowed := true, recurses := true, named := ["internal/strconv.uint64pow10", "math/bits.deBruijn32tab", "math/bits.deBruijn64tab"], apart := false, laid := [("math/bits.deBruijn32tab", laid_math_bits_deBruijn32tab), ("math/bits.deBruijn64tab", laid_math_bits_deBruijn64tab), ("internal/strconv.uint64pow10", laid_internal_strconv_uint64pow10)] }
def GatewayNoneSaid : Prop := gatewayNoneRow.holds Tryz.pinned (OpenSpec.ofChange gatewayNoneSpec)

/-- ITS FALSE NEIGHBOUR: 'it returns false'. Refute it at one input. -/
def gatewayNoneWrong : ChangeSpec := { name := "gatewayNone", fn := fun _ => fun
  | [d1, d2] => { results := [.lit (.bool false)], args := [d1, d2] }
  | _ => none }
def GatewayNoneWrongFalsely : Prop := gatewayNoneRow.holds Tryz.pinned (OpenSpec.ofChange gatewayNoneWrong)

/-- 'liftwelllaw22.GatewayHello': WHATEVER THE INPUT: true; the input reads as it did. -/
def gatewayHelloSpec : ChangeSpec := { name := "gatewayHello", fn := fun _ => fun
  | [d1, d2, d3, d4, d5] => { results := [.lit (.bool true)], args := [d1, d2, d3, d4, d5] }
  | _ => none }
def gatewayHelloRow : OpenClaim := { program := "ytepfmfalebmcnaagreatdoor", sum := "0d9af7907ba3f5e8f17d48cd3501b14dd40353bf08a1bc5ff18a00fb09b798fb", func := "liftwell/liftwelllaw22.GatewayHello", spec := "gatewayHello", inPlace := ["internal/abi.NoEscape"], unfollowed := true, recurses := true, named := ["internal/strconv.uint64pow10", "math/bits.deBruijn32tab", "math/bits.deBruijn64tab"], apart := false, laid := [("math/bits.deBruijn32tab", laid_math_bits_deBruijn32tab), ("math/bits.deBruijn64tab", laid_math_bits_deBruijn64tab), ("internal/strconv.uint64pow10", laid_internal_strconv_uint64pow10)] }
def GatewayHelloSaid : Prop := gatewayHelloRow.holds Tryz.pinned (OpenSpec.ofChange gatewayHelloSpec)

/-- ITS FALSE NEIGHBOUR: 'it returns false'. Refute it at one input. -/
def gatewayHelloWrong : ChangeSpec := { name := "gatewayHello", fn := fun _ => fun
  | [d1, d2, d3, d4, d5] => { results := [.lit (.bool false)], args := [d1, d2, d3, d4, d5] }
  | _ => none }
def GatewayHelloWrongFalsely : Prop := gatewayHelloRow.holds Tryz.pinned (OpenSpec.ofChange gatewayHelloWrong)

/-- 'liftwelltop.WholeOnce': WHATEVER THE INPUT: true; the input reads as it did. -/
def wholeOnceSpec : ChangeSpec := { name := "wholeOnce", fn := fun _ => fun
  | [d1, d2] => { results := [.lit (.bool true)], args := [d1, d2] }
  | _ => none }
def wholeOnceRow : OpenClaim := { program := "ytepfmfalebmcnaagreatdoor", sum := "0d9af7907ba3f5e8f17d48cd3501b14dd40353bf08a1bc5ff18a00fb09b798fb", func := "liftwell/liftwelltop.WholeOnce", spec := "wholeOnce", inPlace := ["internal/abi.NoEscape"], unfollowed := true, recurses := true, named := ["internal/strconv.uint64pow10", "math/bits.deBruijn32tab", "math/bits.deBruijn64tab"], apart := false, laid := [("math/bits.deBruijn32tab", laid_math_bits_deBruijn32tab), ("math/bits.deBruijn64tab", laid_math_bits_deBruijn64tab), ("internal/strconv.uint64pow10", laid_internal_strconv_uint64pow10)] }
def WholeOnceSaid : Prop := wholeOnceRow.holds Tryz.pinned (OpenSpec.ofChange wholeOnceSpec)

/-- ITS FALSE NEIGHBOUR: 'it returns false'. Refute it at one input. -/
def wholeOnceWrong : ChangeSpec := { name := "wholeOnce", fn := fun _ => fun
  | [d1, d2] => { results := [.lit (.bool false)], args := [d1, d2] }
  | _ => none }
def WholeOnceWrongFalsely : Prop := wholeOnceRow.holds Tryz.pinned (OpenSpec.ofChange wholeOnceWrong)

/-- 'liftwelltop.WholeLocked': WHATEVER THE INPUT: true; the input reads as it did. -/
def wholeLockedSpec : ChangeSpec := { name := "wholeLocked", fn := fun _ => fun
  | [d1, d2] => { results := [.lit (.bool true)], args := [d1, d2] }
  | _ => none }
def wholeLockedRow : OpenClaim := { program := "ytepfmfalebmcnaagreatdoor", sum := "0d9af7907ba3f5e8f17d48cd3501b14dd40353bf08a1bc5ff18a00fb09b798fb", func := "liftwell/liftwelltop.WholeLocked", spec := "wholeLocked", inPlace := ["internal/abi.NoEscape"], unfollowed := true, recurses := true, named := ["internal/strconv.uint64pow10", "math/bits.deBruijn32tab", "math/bits.deBruijn64tab"], apart := false, laid := [("math/bits.deBruijn32tab", laid_math_bits_deBruijn32tab), ("math/bits.deBruijn64tab", laid_math_bits_deBruijn64tab), ("internal/strconv.uint64pow10", laid_internal_strconv_uint64pow10)] }
def WholeLockedSaid : Prop := wholeLockedRow.holds Tryz.pinned (OpenSpec.ofChange wholeLockedSpec)

/-- ITS FALSE NEIGHBOUR: 'it returns false'. Refute it at one input. -/
def wholeLockedWrong : ChangeSpec := { name := "wholeLocked", fn := fun _ => fun
  | [d1, d2] => { results := [.lit (.bool false)], args := [d1, d2] }
  | _ => none }
def WholeLockedWrongFalsely : Prop := wholeLockedRow.holds Tryz.pinned (OpenSpec.ofChange wholeLockedWrong)

/-- 'liftwelltop.WholeHolds': WHATEVER THE INPUT: true; the input reads as it did. -/
def wholeHoldsSpec : ChangeSpec := { name := "wholeHolds", fn := fun _ => fun
  | [d1, d2] => { results := [.lit (.bool true)], args := [d1, d2] }
  | _ => none }
def wholeHoldsRow : OpenClaim := { program := "ytepfmfalebmcnaagreatdoor", sum := "0d9af7907ba3f5e8f17d48cd3501b14dd40353bf08a1bc5ff18a00fb09b798fb", func := "liftwell/liftwelltop.WholeHolds", spec := "wholeHolds", inPlace := ["internal/abi.NoEscape"], unfollowed := true, recurses := true, named := ["internal/strconv.uint64pow10", "math/bits.deBruijn32tab", "math/bits.deBruijn64tab"], apart := false, laid := [("math/bits.deBruijn32tab", laid_math_bits_deBruijn32tab), ("math/bits.deBruijn64tab", laid_math_bits_deBruijn64tab), ("internal/strconv.uint64pow10", laid_internal_strconv_uint64pow10)] }
def WholeHoldsSaid : Prop := wholeHoldsRow.holds Tryz.pinned (OpenSpec.ofChange wholeHoldsSpec)

/-- ITS FALSE NEIGHBOUR: 'it returns false'. Refute it at one input. -/
def wholeHoldsWrong : ChangeSpec := { name := "wholeHolds", fn := fun _ => fun
  | [d1, d2] => { results := [.lit (.bool false)], args := [d1, d2] }
  | _ => none }
def WholeHoldsWrongFalsely : Prop := wholeHoldsRow.holds Tryz.pinned (OpenSpec.ofChange wholeHoldsWrong)

/-- 'liftwelltop.WholeEnds': WHATEVER THE INPUT: true; the input reads as it did. -/
def wholeEndsSpec : ChangeSpec := { name := "wholeEnds", fn := fun _ => fun
  | [d1, d2] => { results := [.lit (.bool true)], args := [d1, d2] }
  | _ => none }
def wholeEndsRow : OpenClaim := { program := "ytepfmfalebmcnaagreatdoor", sum := "0d9af7907ba3f5e8f17d48cd3501b14dd40353bf08a1bc5ff18a00fb09b798fb", func := "liftwell/liftwelltop.WholeEnds", spec := "wholeEnds", inPlace := ["internal/abi.NoEscape"], unfollowed := true, recurses := true, named := ["internal/strconv.uint64pow10", "math/bits.deBruijn32tab", "math/bits.deBruijn64tab"], apart := false, laid := [("math/bits.deBruijn32tab", laid_math_bits_deBruijn32tab), ("math/bits.deBruijn64tab", laid_math_bits_deBruijn64tab), ("internal/strconv.uint64pow10", laid_internal_strconv_uint64pow10)] }
def WholeEndsSaid : Prop := wholeEndsRow.holds Tryz.pinned (OpenSpec.ofChange wholeEndsSpec)

/-- ITS FALSE NEIGHBOUR: 'it returns false'. Refute it at one input. -/
def wholeEndsWrong : ChangeSpec := { name := "wholeEnds", fn := fun _ => fun
  | [d1, d2] => { results := [.lit (.bool false)], args := [d1, d2] }
  | _ => none }
def WholeEndsWrongFalsely : Prop := wholeEndsRow.holds Tryz.pinned (OpenSpec.ofChange wholeEndsWrong)

/-- 'liftwelltop.WholeSilent': WHATEVER THE INPUT: true; the input reads as it did. -/
def wholeSilentSpec : ChangeSpec := { name := "wholeSilent", fn := fun _ => fun
  | [d1, d2] => { results := [.lit (.bool true)], args := [d1, d2] }
  | _ => none }
def wholeSilentRow : OpenClaim := { program := "ytepfmfalebmcnaagreatdoor", sum := "0d9af7907ba3f5e8f17d48cd3501b14dd40353bf08a1bc5ff18a00fb09b798fb", func := "liftwell/liftwelltop.WholeSilent", spec := "wholeSilent", inPlace := ["internal/abi.NoEscape"], unfollowed := true, recurses := true, named := ["internal/strconv.uint64pow10", "math/bits.deBruijn32tab", "math/bits.deBruijn64tab"], apart := false, laid := [("math/bits.deBruijn32tab", laid_math_bits_deBruijn32tab), ("math/bits.deBruijn64tab", laid_math_bits_deBruijn64tab), ("internal/strconv.uint64pow10", laid_internal_strconv_uint64pow10)] }
def WholeSilentSaid : Prop := wholeSilentRow.holds Tryz.pinned (OpenSpec.ofChange wholeSilentSpec)

/-- ITS FALSE NEIGHBOUR: 'it returns false'. Refute it at one input. -/
def wholeSilentWrong : ChangeSpec := { name := "wholeSilent", fn := fun _ => fun
  | [d1, d2] => { results := [.lit (.bool false)], args := [d1, d2] }
  | _ => none }
def WholeSilentWrongFalsely : Prop := wholeSilentRow.holds Tryz.pinned (OpenSpec.ofChange wholeSilentWrong)

/-- 'liftwelltop.WholeBusy': WHATEVER THE INPUT: true; the input reads as it did. -/
def wholeBusySpec : ChangeSpec := { name := "wholeBusy", fn := fun _ => fun
  | [d1, d2, d3] => { results := [.lit (.bool true)], args := [d1, d2, d3] }
  | _ => none }
def wholeBusyRow : OpenClaim := { program := "ytepfmfalebmcnaagreatdoor", sum := "0d9af7907ba3f5e8f17d48cd3501b14dd40353bf08a1bc5ff18a00fb09b798fb", func := "liftwell/liftwelltop.WholeBusy", spec := "wholeBusy", inPlace := ["internal/abi.NoEscape"], unfollowed := true, recurses := true, named := ["internal/strconv.uint64pow10", "math/bits.deBruijn32tab", "math/bits.deBruijn64tab"], apart := false, laid := [("math/bits.deBruijn32tab", laid_math_bits_deBruijn32tab), ("math/bits.deBruijn64tab", laid_math_bits_deBruijn64tab), ("internal/strconv.uint64pow10", laid_internal_strconv_uint64pow10)] }
def WholeBusySaid : Prop := wholeBusyRow.holds Tryz.pinned (OpenSpec.ofChange wholeBusySpec)

/-- ITS FALSE NEIGHBOUR: 'it returns false'. Refute it at one input. -/
def wholeBusyWrong : ChangeSpec := { name := "wholeBusy", fn := fun _ => fun
  | [d1, d2, d3] => { results := [.lit (.bool false)], args := [d1, d2, d3] }
  | _ => none }
def WholeBusyWrongFalsely : Prop := wholeBusyRow.holds Tryz.pinned (OpenSpec.ofChange wholeBusyWrong)

/-- 'liftwelltop.WholeAgain': WHATEVER THE INPUT: true; the input reads as it did. -/
def wholeAgainSpec : ChangeSpec := { name := "wholeAgain", fn := fun _ => fun
  | [d1, d2, d3] => { results := [.lit (.bool true)], args := [d1, d2, d3] }
  | _ => none }
def wholeAgainRow : OpenClaim := { program := "ytepfmfalebmcnaagreatdoor", sum := "0d9af7907ba3f5e8f17d48cd3501b14dd40353bf08a1bc5ff18a00fb09b798fb", func := "liftwell/liftwelltop.WholeAgain", spec := "wholeAgain", inPlace := ["internal/abi.NoEscape"], unfollowed := true, recurses := true, named := ["internal/strconv.uint64pow10", "math/bits.deBruijn32tab", "math/bits.deBruijn64tab"], apart := false, laid := [("math/bits.deBruijn32tab", laid_math_bits_deBruijn32tab), ("math/bits.deBruijn64tab", laid_math_bits_deBruijn64tab), ("internal/strconv.uint64pow10", laid_internal_strconv_uint64pow10)] }
def WholeAgainSaid : Prop := wholeAgainRow.holds Tryz.pinned (OpenSpec.ofChange wholeAgainSpec)

/-- ITS FALSE NEIGHBOUR: 'it returns false'. Refute it at one input. -/
def wholeAgainWrong : ChangeSpec := { name := "wholeAgain", fn := fun _ => fun
  | [d1, d2, d3] => { results := [.lit (.bool false)], args := [d1, d2, d3] }
  | _ => none }
def WholeAgainWrongFalsely : Prop := wholeAgainRow.holds Tryz.pinned (OpenSpec.ofChange wholeAgainWrong)

/- THE SECOND FORM. 'bulk': how many values and letters a reading holds, each counted each time it is reached (what is shared counts as often as it is met; a slice's spare places count too). A statement '..UptoSaid' is the law's where the arguments, and the package variables that the reading takes, are together of bulk at most 1048576: NARROWER than '..Said'. Prove '..Said' where nothing that the law and all that it calls make is longer than what came in: it says more and counts as full. Else prove '..UptoSaid'. A law counts once. -/
mutual
def uptoBulk {H : Type} : DataW H → Nat
  | .lit (.string bytes) => bytes.length + 1
  | .lit _ => 1
  | .nil => 1
  | .ptr d => uptoBulk d + 1
  | .slice elems spare => uptoBulkAll elems + uptoBulkAll spare + 1
  | .agg parts => uptoBulkAll parts + 1
  | .iface _ d => uptoBulk d + 1
  | .map entries => uptoBulkEntries entries + 1
  | .held _ => 1
def uptoBulkAll {H : Type} : List (DataW H) → Nat
  | [] => 0
  | d :: r => uptoBulk d + uptoBulkAll r
def uptoBulkEntries {H : Type} : List (Lit × DataW H) → Nat
  | [] => 0
  | x :: r => uptoBulkEntry x + uptoBulkEntries r
def uptoBulkEntry {H : Type} : Lit × DataW H → Nat
  | (.string bytes, d) => bytes.length + uptoBulk d + 1
  | (_, d) => uptoBulk d + 1
 end
def uptoSmall : (H : Type) → List (DataW H) → Bool := fun _ ds => decide (uptoBulkAll ds ≤ 1048576)
def OpenSpec.upto (s : _root_.Go.ChangeSpec) : _root_.Go.OpenSpec := { _root_.Go.OpenSpec.ofChange s with cond := some uptoSmall }

/-- 'liftwelllaw22.GatewayStale', WHERE WHAT IT READS IS OF BULK AT MOST 1048576: true; the input reads as it did. -/
def gatewayStaleUptoRow : OpenClaim := { program := "ytepfmfalebmcnaagreatdoor", sum := "0d9af7907ba3f5e8f17d48cd3501b14dd40353bf08a1bc5ff18a00fb09b798fb", func := "liftwell/liftwelllaw22.GatewayStale", spec := "gatewayStale", inPlace := ["internal/abi.NoEscape"], unfollowed := true, recurses := true, named := ["internal/strconv.uint64pow10", "math/bits.deBruijn32tab", "math/bits.deBruijn64tab"], apart := false, laid := [("math/bits.deBruijn32tab", laid_math_bits_deBruijn32tab), ("math/bits.deBruijn64tab", laid_math_bits_deBruijn64tab), ("internal/strconv.uint64pow10", laid_internal_strconv_uint64pow10)], narrowed := true }
def GatewayStaleUptoSaid : Prop := gatewayStaleUptoRow.holds Tryz.pinned (OpenSpec.upto gatewayStaleSpec)

/-- 'liftwelllaw22.GatewaySilent', WHERE WHAT IT READS IS OF BULK AT MOST 1048576: true; the input reads as it did. -/
def gatewaySilentUptoRow : OpenClaim := { program := "ytepfmfalebmcnaagreatdoor", sum := "0d9af7907ba3f5e8f17d48cd3501b14dd40353bf08a1bc5ff18a00fb09b798fb", func := "liftwell/liftwelllaw22.GatewaySilent", spec := "gatewaySilent", inPlace := ["internal/abi.NoEscape"], unfollowed := true, recurses := true, named := ["internal/strconv.uint64pow10", "math/bits.deBruijn32tab", "math/bits.deBruijn64tab"], apart := false, laid := [("math/bits.deBruijn32tab", laid_math_bits_deBruijn32tab), ("math/bits.deBruijn64tab", laid_math_bits_deBruijn64tab), ("internal/strconv.uint64pow10", laid_internal_strconv_uint64pow10)], narrowed := true }
def GatewaySilentUptoSaid : Prop := gatewaySilentUptoRow.holds Tryz.pinned (OpenSpec.upto gatewaySilentSpec)

/-- 'liftwelllaw22.GatewayParts', WHERE WHAT IT READS IS OF BULK AT MOST 1048576: true; the input reads as it did. -/
def gatewayPartsUptoRow : OpenClaim := { program := "ytepfmfalebmcnaagreatdoor", sum := "0d9af7907ba3f5e8f17d48cd3501b14dd40353bf08a1bc5ff18a00fb09b798fb", func := "liftwell/liftwelllaw22.GatewayParts", spec := "gatewayParts", inPlace := ["internal/abi.NoEscape"], unfollowed := true, recurses := true, named := ["internal/strconv.uint64pow10", "math/bits.deBruijn32tab", "math/bits.deBruijn64tab"], apart := false, laid := [("math/bits.deBruijn32tab", laid_math_bits_deBruijn32tab), ("math/bits.deBruijn64tab", laid_math_bits_deBruijn64tab), ("internal/strconv.uint64pow10", laid_internal_strconv_uint64pow10)], narrowed := true }
def GatewayPartsUptoSaid : Prop := gatewayPartsUptoRow.holds Tryz.pinned (OpenSpec.upto gatewayPartsSpec)

/-- 'liftwelllaw22.GatewayLists', WHERE WHAT IT READS IS OF BULK AT MOST 1048576: true; the input reads as it did. -/
def gatewayListsUptoRow : OpenClaim := { program := "ytepfmfalebmcnaagreatdoor", sum := "0d9af7907ba3f5e8f17d48cd3501b14dd40353bf08a1bc5ff18a00fb09b798fb", func := "liftwell/liftwelllaw22.GatewayLists", spec := "gatewayLists", inPlace := ["internal/abi.NoEscape"], unfollowed := true, recurses := true, named := ["internal/strconv.uint64pow10", "math/bits.deBruijn32tab", "math/bits.deBruijn64tab"], apart := false, laid := [("math/bits.deBruijn32tab", laid_math_bits_deBruijn32tab), ("math/bits.deBruijn64tab", laid_math_bits_deBruijn64tab), ("internal/strconv.uint64pow10", laid_internal_strconv_uint64pow10)], narrowed := true }
def GatewayListsUptoSaid : Prop := gatewayListsUptoRow.holds Tryz.pinned (OpenSpec.upto gatewayListsSpec)

/-- 'liftwelllaw22.GatewayNone', WHERE WHAT IT READS IS OF BULK AT MOST 1048576: true; the input reads as it did. -/
def gatewayNoneUptoRow : OpenClaim := { program := "ytepfmfalebmcnaagreatdoor", sum := "0d9af7907ba3f5e8f17d48cd3501b14dd40353bf08a1bc5ff18a00fb09b798fb", func := "liftwell/liftwelllaw22.GatewayNone", spec := "gatewayNone", inPlace := ["internal/abi.NoEscape"], unfollowed := true, recurses := true, named := ["internal/strconv.uint64pow10", "math/bits.deBruijn32tab", "math/bits.deBruijn64tab"], apart := false, laid := [("math/bits.deBruijn32tab", laid_math_bits_deBruijn32tab), ("math/bits.deBruijn64tab", laid_math_bits_deBruijn64tab), ("internal/strconv.uint64pow10", laid_internal_strconv_uint64pow10)], narrowed := true }
def GatewayNoneUptoSaid : Prop := gatewayNoneUptoRow.holds Tryz.pinned (OpenSpec.upto gatewayNoneSpec)

/-- 'liftwelllaw22.GatewayHello', WHERE WHAT IT READS IS OF BULK AT MOST 1048576: true; the input reads as it did. -/
def gatewayHelloUptoRow : OpenClaim := { program := "ytepfmfalebmcnaagreatdoor", sum := "0d9af7907ba3f5e8f17d48cd3501b14dd40353bf08a1bc5ff18a00fb09b798fb", func := "liftwell/liftwelllaw22.GatewayHello", spec := "gatewayHello", inPlace := ["internal/abi.NoEscape"], unfollowed := true, recurses := true, named := ["internal/strconv.uint64pow10", "math/bits.deBruijn32tab", "math/bits.deBruijn64tab"], apart := false, laid := [("math/bits.deBruijn32tab", laid_math_bits_deBruijn32tab), ("math/bits.deBruijn64tab", laid_math_bits_deBruijn64tab), ("internal/strconv.uint64pow10", laid_internal_strconv_uint64pow10)], narrowed := true }
def GatewayHelloUptoSaid : Prop := gatewayHelloUptoRow.holds Tryz.pinned (OpenSpec.upto gatewayHelloSpec)

/-- 'liftwelltop.WholeOnce', WHERE WHAT IT READS IS OF BULK AT MOST 1048576: true; the input reads as it did. -/
def wholeOnceUptoRow : OpenClaim := { program := "ytepfmfalebmcnaagreatdoor", sum := "0d9af7907ba3f5e8f17d48cd3501b14dd40353bf08a1bc5ff18a00fb09b798fb", func := "liftwell/liftwelltop.WholeOnce", spec := "wholeOnce", inPlace := ["internal/abi.NoEscape"], unfollowed := true, recurses := true, named := ["internal/strconv.uint64pow10", "math/bits.deBruijn32tab", "math/bits.deBruijn64tab"], apart := false, laid := [("math/bits.deBruijn32tab", laid_math_bits_deBruijn32tab), ("math/bits.deBruijn64tab", laid_math_bits_deBruijn64tab), ("internal/strconv.uint64pow10", laid_internal_strconv_uint64pow10)], narrowed := true }
def WholeOnceUptoSaid : Prop := wholeOnceUptoRow.holds Tryz.pinned (OpenSpec.upto wholeOnceSpec)

/-- 'liftwelltop.WholeLocked', WHERE WHAT IT READS IS OF BULK AT MOST 1048576: true; the input reads as it did. -/
def wholeLockedUptoRow : OpenClaim := { program := "ytepfmfalebmcnaagreatdoor", sum := "0d9af7907ba3f5e8f17d48cd3501b14dd40353bf08a1bc5ff18a00fb09b798fb", func := "liftwell/liftwelltop.WholeLocked", spec := "wholeLocked", inPlace := ["internal/abi.NoEscape"], unfollowed := true, recurses := true, named := ["internal/strconv.uint64pow10", "math/bits.deBruijn32tab", "math/bits.deBruijn64tab"], apart := false, laid := [("math/bits.deBruijn32tab", laid_math_bits_deBruijn32tab), ("math/bits.deBruijn64tab", laid_math_bits_deBruijn64tab), ("internal/strconv.uint64pow10", laid_internal_strconv_uint64pow10)], narrowed := true }
def WholeLockedUptoSaid : Prop := wholeLockedUptoRow.holds Tryz.pinned (OpenSpec.upto wholeLockedSpec)

/-- 'liftwelltop.WholeHolds', WHERE WHAT IT READS IS OF BULK AT MOST 1048576: true; the input reads as it did. -/
def wholeHoldsUptoRow : OpenClaim := { program := "ytepfmfalebmcnaagreatdoor", sum := "0d9af7907ba3f5e8f17d48cd3501b14dd40353bf08a1bc5ff18a00fb09b798fb", func := "liftwell/liftwelltop.WholeHolds", spec := "wholeHolds", inPlace := ["internal/abi.NoEscape"], unfollowed := true, recurses := true, named := ["internal/strconv.uint64pow10", "math/bits.deBruijn32tab", "math/bits.deBruijn64tab"], apart := false, laid := [("math/bits.deBruijn32tab", laid_math_bits_deBruijn32tab), ("math/bits.deBruijn64tab", laid_math_bits_deBruijn64tab), ("internal/strconv.uint64pow10", laid_internal_strconv_uint64pow10)], narrowed := true }
def WholeHoldsUptoSaid : Prop := wholeHoldsUptoRow.holds Tryz.pinned (OpenSpec.upto wholeHoldsSpec)

/-- 'liftwelltop.WholeEnds', WHERE WHAT IT READS IS OF BULK AT MOST 1048576: true; the input reads as it did. -/
def wholeEndsUptoRow : OpenClaim := { program := "ytepfmfalebmcnaagreatdoor", sum := "0d9af7907ba3f5e8f17d48cd3501b14dd40353bf08a1bc5ff18a00fb09b798fb", func := "liftwell/liftwelltop.WholeEnds", spec := "wholeEnds", inPlace := ["internal/abi.NoEscape"], unfollowed := true, recurses := true, named := ["internal/strconv.uint64pow10", "math/bits.deBruijn32tab", "math/bits.deBruijn64tab"], apart := false, laid := [("math/bits.deBruijn32tab", laid_math_bits_deBruijn32tab), ("math/bits.deBruijn64tab", laid_math_bits_deBruijn64tab), ("internal/strconv.uint64pow10", laid_internal_strconv_uint64pow10)], narrowed := true }
def WholeEndsUptoSaid : Prop := wholeEndsUptoRow.holds Tryz.pinned (OpenSpec.upto wholeEndsSpec)

/-- 'liftwelltop.WholeSilent', WHERE WHAT IT READS IS OF BULK AT MOST 1048576: true; the input reads as it did. -/
def wholeSilentUptoRow : OpenClaim := { program := "ytepfmfalebmcnaagreatdoor", sum := "0d9af7907ba3f5e8f17d48cd3501b14dd40353bf08a1bc5ff18a00fb09b798fb", func := "liftwell/liftwelltop.WholeSilent", spec := "wholeSilent", inPlace := ["internal/abi.NoEscape"], unfollowed := true, recurses := true, named := ["internal/strconv.uint64pow10", "math/bits.deBruijn32tab", "math/bits.deBruijn64tab"], apart := false, laid := [("math/bits.deBruijn32tab", laid_math_bits_deBruijn32tab), ("math/bits.deBruijn64tab", laid_math_bits_deBruijn64tab), ("internal/strconv.uint64pow10", laid_internal_strconv_uint64pow10)], narrowed := true }
def WholeSilentUptoSaid : Prop := wholeSilentUptoRow.holds Tryz.pinned (OpenSpec.upto wholeSilentSpec)

/-- 'liftwelltop.WholeBusy', WHERE WHAT IT READS IS OF BULK AT MOST 1048576: true; the input reads as it did. -/
def wholeBusyUptoRow : OpenClaim := { program := "ytepfmfalebmcnaagreatdoor", sum := "0d9af7907ba3f5e8f17d48cd3501b14dd40353bf08a1bc5ff18a00fb09b798fb", func := "liftwell/liftwelltop.WholeBusy", spec := "wholeBusy", inPlace := ["internal/abi.NoEscape"], unfollowed := true, recurses := true, named := ["internal/strconv.uint64pow10", "math/bits.deBruijn32tab", "math/bits.deBruijn64tab"], apart := false, laid := [("math/bits.deBruijn32tab", laid_math_bits_deBruijn32tab), ("math/bits.deBruijn64tab", laid_math_bits_deBruijn64tab), ("internal/strconv.uint64pow10", laid_internal_strconv_uint64pow10)], narrowed := true }
def WholeBusyUptoSaid : Prop := wholeBusyUptoRow.holds Tryz.pinned (OpenSpec.upto wholeBusySpec)

/-- 'liftwelltop.WholeAgain', WHERE WHAT IT READS IS OF BULK AT MOST 1048576: true; the input reads as it did. -/
def wholeAgainUptoRow : OpenClaim := { program := "ytepfmfalebmcnaagreatdoor", sum := "0d9af7907ba3f5e8f17d48cd3501b14dd40353bf08a1bc5ff18a00fb09b798fb", func := "liftwell/liftwelltop.WholeAgain", spec := "wholeAgain", inPlace := ["internal/abi.NoEscape"], unfollowed := true, recurses := true, named := ["internal/strconv.uint64pow10", "math/bits.deBruijn32tab", "math/bits.deBruijn64tab"], apart := false, laid := [("math/bits.deBruijn32tab", laid_math_bits_deBruijn32tab), ("math/bits.deBruijn64tab", laid_math_bits_deBruijn64tab), ("internal/strconv.uint64pow10", laid_internal_strconv_uint64pow10)], narrowed := true }
def WholeAgainUptoSaid : Prop := wholeAgainUptoRow.holds Tryz.pinned (OpenSpec.upto wholeAgainSpec)

end Rows
end Go.Proofs.YtepfmfalebmcnaaGreatDoor
