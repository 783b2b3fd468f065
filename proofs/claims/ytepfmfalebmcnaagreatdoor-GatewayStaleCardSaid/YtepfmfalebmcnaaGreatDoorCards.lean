/-
  DERIVED. GIVEN WITH THE SEED: THE CARDS: each row of YtepfmfalebmcnaaGreatDoorRows.lean that lists a variable, with what it lists TIED to the program's text (the seventh form; the later family's looks); each row that meets fmt, with fmt's text TOLD by the authors' own Lean function (tested against real Go, not proved from fmt's source: count such statements apart). THE CARD IS WHAT COUNTS. Prove the row's statement (the work); the ties are given (YtepfmfalebmcnaaGreatDoorTie.lean); close each card by the builder's one call (the guide's Derived/Test/ToyasCard.lean, 'card_holds'). Laid BY PROGRAM, IN A SANDBOX (cutbox-door.mjs). By AI agents, Wed Nov 11 2026. No macro, syntax, notation, axiom, sorry.
-/
import Derived.Test.YtepfmfalebmcnaaGreatDoorRows
import GoSem.ClaimSeven
namespace Go.Proofs.YtepfmfalebmcnaaGreatDoor
namespace Rows

/-- THE TIED CARD OF 'liftwelllaw22.GatewayStale'. -/
def gatewayStaleCard : Claim7 := { stood := { row := gatewayStaleRow, standIns := [], harness := (true, "88a5ae5d3066159935a0651a3ff4ee70ae5fcf3e57475cf9011b54b43ce5ad1b"), looks := false }, kinds := [], alts := [], laidByText := true, laidKinds := [.data, .data, .data], laidTests := true, laidLooks := .later }
def GatewayStaleCardSaid : Prop := Claim7.holds Tryz.pinned (.plain (OpenSpec.ofChange gatewayStaleSpec)) gatewayStaleCard

/-- THE TIED CARD OF 'liftwelllaw22.GatewaySilent'. -/
def gatewaySilentCard : Claim7 := { stood := { row := gatewaySilentRow, standIns := [], harness := (true, "88a5ae5d3066159935a0651a3ff4ee70ae5fcf3e57475cf9011b54b43ce5ad1b"), looks := false }, kinds := [], alts := [], laidByText := true, laidKinds := [.data, .data, .data], laidTests := true, laidLooks := .later }
def GatewaySilentCardSaid : Prop := Claim7.holds Tryz.pinned (.plain (OpenSpec.ofChange gatewaySilentSpec)) gatewaySilentCard

/-- THE TIED CARD OF 'liftwelllaw22.GatewayParts'. -/
def gatewayPartsCard : Claim7 := { stood := { row := gatewayPartsRow, standIns := [], harness := (true, "88a5ae5d3066159935a0651a3ff4ee70ae5fcf3e57475cf9011b54b43ce5ad1b"), looks := false }, kinds := [], alts := [], laidByText := true, laidKinds := [.data, .data, .data], laidTests := true, laidLooks := .later }
def GatewayPartsCardSaid : Prop := Claim7.holds Tryz.pinned (.plain (OpenSpec.ofChange gatewayPartsSpec)) gatewayPartsCard

/-- THE TIED CARD OF 'liftwelllaw22.GatewayLists'. -/
def gatewayListsCard : Claim7 := { stood := { row := gatewayListsRow, standIns := [], harness := (true, "88a5ae5d3066159935a0651a3ff4ee70ae5fcf3e57475cf9011b54b43ce5ad1b"), looks := false }, kinds := [], alts := [], laidByText := true, laidKinds := [.data, .data, .data], laidTests := true, laidLooks := .later }
def GatewayListsCardSaid : Prop := Claim7.holds Tryz.pinned (.plain (OpenSpec.ofChange gatewayListsSpec)) gatewayListsCard

/-- THE TIED CARD OF 'liftwelllaw22.GatewayNone'. -/
def gatewayNoneCard : Claim7 := { stood := { row := gatewayNoneRow, standIns := [], harness := (true, "88a5ae5d3066159935a0651a3ff4ee70ae5fcf3e57475cf9011b54b43ce5ad1b"), looks := false }, kinds := [], alts := [], laidByText := true, laidKinds := [.data, .data, .data], laidTests := true, laidLooks := .later }
def GatewayNoneCardSaid : Prop := Claim7.holds Tryz.pinned (.plain (OpenSpec.ofChange gatewayNoneSpec)) gatewayNoneCard

/-- THE TIED CARD OF 'liftwelllaw22.GatewayHello'. -/
def gatewayHelloCard : Claim7 := { stood := { row := gatewayHelloRow, standIns := [], harness := (true, "88a5ae5d3066159935a0651a3ff4ee70ae5fcf3e57475cf9011b54b43ce5ad1b"), looks := false }, kinds := [], alts := [], laidByText := true, laidKinds := [.data, .data, .data], laidTests := true, laidLooks := .later }
def GatewayHelloCardSaid : Prop := Claim7.holds Tryz.pinned (.plain (OpenSpec.ofChange gatewayHelloSpec)) gatewayHelloCard

/-- THE TIED CARD OF 'liftwelltop.WholeOnce'. -/
def wholeOnceCard : Claim7 := { stood := { row := wholeOnceRow, standIns := [], harness := (true, "88a5ae5d3066159935a0651a3ff4ee70ae5fcf3e57475cf9011b54b43ce5ad1b"), looks := false }, kinds := [], alts := [], laidByText := true, laidKinds := [.data, .data, .data], laidTests := true, laidLooks := .later }
def WholeOnceCardSaid : Prop := Claim7.holds Tryz.pinned (.plain (OpenSpec.ofChange wholeOnceSpec)) wholeOnceCard

/-- THE TIED CARD OF 'liftwelltop.WholeLocked'. -/
def wholeLockedCard : Claim7 := { stood := { row := wholeLockedRow, standIns := [], harness := (true, "88a5ae5d3066159935a0651a3ff4ee70ae5fcf3e57475cf9011b54b43ce5ad1b"), looks := false }, kinds := [], alts := [], laidByText := true, laidKinds := [.data, .data, .data], laidTests := true, laidLooks := .later }
def WholeLockedCardSaid : Prop := Claim7.holds Tryz.pinned (.plain (OpenSpec.ofChange wholeLockedSpec)) wholeLockedCard

/-- THE TIED CARD OF 'liftwelltop.WholeHolds'. -/
def wholeHoldsCard : Claim7 := { stood := { row := wholeHoldsRow, standIns := [], harness := (true, "88a5ae5d3066159935a0651a3ff4ee70ae5fcf3e57475cf9011b54b43ce5ad1b"), looks := false }, kinds := [], alts := [], laidByText := true, laidKinds := [.data, .data, .data], laidTests := true, laidLooks := .later }
def WholeHoldsCardSaid : Prop := Claim7.holds Tryz.pinned (.plain (OpenSpec.ofChange wholeHoldsSpec)) wholeHoldsCard

/-- THE TIED CARD OF 'liftwelltop.WholeEnds'. -/
def wholeEndsCard : Claim7 := { stood := { row := wholeEndsRow, standIns := [], harness := (true, "88a5ae5d3066159935a0651a3ff4ee70ae5fcf3e57475cf9011b54b43ce5ad1b"), looks := false }, kinds := [], alts := [], laidByText := true, laidKinds := [.data, .data, .data], laidTests := true, laidLooks := .later }
def WholeEndsCardSaid : Prop := Claim7.holds Tryz.pinned (.plain (OpenSpec.ofChange wholeEndsSpec)) wholeEndsCard

/-- THE TIED CARD OF 'liftwelltop.WholeSilent'. -/
def wholeSilentCard : Claim7 := { stood := { row := wholeSilentRow, standIns := [], harness := (true, "88a5ae5d3066159935a0651a3ff4ee70ae5fcf3e57475cf9011b54b43ce5ad1b"), looks := false }, kinds := [], alts := [], laidByText := true, laidKinds := [.data, .data, .data], laidTests := true, laidLooks := .later }
def WholeSilentCardSaid : Prop := Claim7.holds Tryz.pinned (.plain (OpenSpec.ofChange wholeSilentSpec)) wholeSilentCard

/-- THE TIED CARD OF 'liftwelltop.WholeBusy'. -/
def wholeBusyCard : Claim7 := { stood := { row := wholeBusyRow, standIns := [], harness := (true, "88a5ae5d3066159935a0651a3ff4ee70ae5fcf3e57475cf9011b54b43ce5ad1b"), looks := false }, kinds := [], alts := [], laidByText := true, laidKinds := [.data, .data, .data], laidTests := true, laidLooks := .later }
def WholeBusyCardSaid : Prop := Claim7.holds Tryz.pinned (.plain (OpenSpec.ofChange wholeBusySpec)) wholeBusyCard

/-- THE TIED CARD OF 'liftwelltop.WholeAgain'. -/
def wholeAgainCard : Claim7 := { stood := { row := wholeAgainRow, standIns := [], harness := (true, "88a5ae5d3066159935a0651a3ff4ee70ae5fcf3e57475cf9011b54b43ce5ad1b"), looks := false }, kinds := [], alts := [], laidByText := true, laidKinds := [.data, .data, .data], laidTests := true, laidLooks := .later }
def WholeAgainCardSaid : Prop := Claim7.holds Tryz.pinned (.plain (OpenSpec.ofChange wholeAgainSpec)) wholeAgainCard

/-- THE SECOND FORM's CARD OF 'liftwelllaw22.GatewayStale'. -/
def gatewayStaleUptoCard : Claim7 := { stood := { row := gatewayStaleUptoRow, standIns := [], harness := (true, "88a5ae5d3066159935a0651a3ff4ee70ae5fcf3e57475cf9011b54b43ce5ad1b"), looks := false }, kinds := [], alts := [], laidByText := true, laidKinds := [.data, .data, .data], laidTests := true, laidLooks := .later }
def GatewayStaleUptoCardSaid : Prop := Claim7.holds Tryz.pinned (.plain (OpenSpec.upto gatewayStaleSpec)) gatewayStaleUptoCard

/-- THE SECOND FORM's CARD OF 'liftwelllaw22.GatewaySilent'. -/
def gatewaySilentUptoCard : Claim7 := { stood := { row := gatewaySilentUptoRow, standIns := [], harness := (true, "88a5ae5d3066159935a0651a3ff4ee70ae5fcf3e57475cf9011b54b43ce5ad1b"), looks := false }, kinds := [], alts := [], laidByText := true, laidKinds := [.data, .data, .data], laidTests := true, laidLooks := .later }
def GatewaySilentUptoCardSaid : Prop := Claim7.holds Tryz.pinned (.plain (OpenSpec.upto gatewaySilentSpec)) gatewaySilentUptoCard

/-- THE SECOND FORM's CARD OF 'liftwelllaw22.GatewayParts'. -/
def gatewayPartsUptoCard : Claim7 := { stood := { row := gatewayPartsUptoRow, standIns := [], harness := (true, "88a5ae5d3066159935a0651a3ff4ee70ae5fcf3e57475cf9011b54b43ce5ad1b"), looks := false }, kinds := [], alts := [], laidByText := true, laidKinds := [.data, .data, .data], laidTests := true, laidLooks := .later }
def GatewayPartsUptoCardSaid : Prop := Claim7.holds Tryz.pinned (.plain (OpenSpec.upto gatewayPartsSpec)) gatewayPartsUptoCard

/-- THE SECOND FORM's CARD OF 'liftwelllaw22.GatewayLists'. -/
def gatewayListsUptoCard : Claim7 := { stood := { row := gatewayListsUptoRow, standIns := [], harness := (true, "88a5ae5d3066159935a0651a3ff4ee70ae5fcf3e57475cf9011b54b43ce5ad1b"), looks := false }, kinds := [], alts := [], laidByText := true, laidKinds := [.data, .data, .data], laidTests := true, laidLooks := .later }
def GatewayListsUptoCardSaid : Prop := Claim7.holds Tryz.pinned (.plain (OpenSpec.upto gatewayListsSpec)) gatewayListsUptoCard

/-- THE SECOND FORM's CARD OF 'liftwelllaw22.GatewayNone'. -/
def gatewayNoneUptoCard : Claim7 := { stood := { row := gatewayNoneUptoRow, standIns := [], harness := (true, "88a5ae5d3066159935a0651a3ff4ee70ae5fcf3e57475cf9011b54b43ce5ad1b"), looks := false }, kinds := [], alts := [], laidByText := true, laidKinds := [.data, .data, .data], laidTests := true, laidLooks := .later }
def GatewayNoneUptoCardSaid : Prop := Claim7.holds Tryz.pinned (.plain (OpenSpec.upto gatewayNoneSpec)) gatewayNoneUptoCard

/-- THE SECOND FORM's CARD OF 'liftwelllaw22.GatewayHello'. -/
def gatewayHelloUptoCard : Claim7 := { stood := { row := gatewayHelloUptoRow, standIns := [], harness := (true, "88a5ae5d3066159935a0651a3ff4ee70ae5fcf3e57475cf9011b54b43ce5ad1b"), looks := false }, kinds := [], alts := [], laidByText := true, laidKinds := [.data, .data, .data], laidTests := true, laidLooks := .later }
def GatewayHelloUptoCardSaid : Prop := Claim7.holds Tryz.pinned (.plain (OpenSpec.upto gatewayHelloSpec)) gatewayHelloUptoCard

/-- THE SECOND FORM's CARD OF 'liftwelltop.WholeOnce'. -/
def wholeOnceUptoCard : Claim7 := { stood := { row := wholeOnceUptoRow, standIns := [], harness := (true, "88a5ae5d3066159935a0651a3ff4ee70ae5fcf3e57475cf9011b54b43ce5ad1b"), looks := false }, kinds := [], alts := [], laidByText := true, laidKinds := [.data, .data, .data], laidTests := true, laidLooks := .later }
def WholeOnceUptoCardSaid : Prop := Claim7.holds Tryz.pinned (.plain (OpenSpec.upto wholeOnceSpec)) wholeOnceUptoCard

/-- THE SECOND FORM's CARD OF 'liftwelltop.WholeLocked'. -/
def wholeLockedUptoCard : Claim7 := { stood := { row := wholeLockedUptoRow, standIns := [], harness := (true, "88a5ae5d3066159935a0651a3ff4ee70ae5fcf3e57475cf9011b54b43ce5ad1b"), looks := false }, kinds := [], alts := [], laidByText := true, laidKinds := [.data, .data, .data], laidTests := true, laidLooks := .later }
def WholeLockedUptoCardSaid : Prop := Claim7.holds Tryz.pinned (.plain (OpenSpec.upto wholeLockedSpec)) wholeLockedUptoCard

/-- THE SECOND FORM's CARD OF 'liftwelltop.WholeHolds'. -/
def wholeHoldsUptoCard : Claim7 := { stood := { row := wholeHoldsUptoRow, standIns := [], harness := (true, "88a5ae5d3066159935a0651a3ff4ee70ae5fcf3e57475cf9011b54b43ce5ad1b"), looks := false }, kinds := [], alts := [], laidByText := true, laidKinds := [.data, .data, .data], laidTests := true, laidLooks := .later }
def WholeHoldsUptoCardSaid : Prop := Claim7.holds Tryz.pinned (.plain (OpenSpec.upto wholeHoldsSpec)) wholeHoldsUptoCard

/-- THE SECOND FORM's CARD OF 'liftwelltop.WholeEnds'. -/
def wholeEndsUptoCard : Claim7 := { stood := { row := wholeEndsUptoRow, standIns := [], harness := (true, "88a5ae5d3066159935a0651a3ff4ee70ae5fcf3e57475cf9011b54b43ce5ad1b"), looks := false }, kinds := [], alts := [], laidByText := true, laidKinds := [.data, .data, .data], laidTests := true, laidLooks := .later }
def WholeEndsUptoCardSaid : Prop := Claim7.holds Tryz.pinned (.plain (OpenSpec.upto wholeEndsSpec)) wholeEndsUptoCard

/-- THE SECOND FORM's CARD OF 'liftwelltop.WholeSilent'. -/
def wholeSilentUptoCard : Claim7 := { stood := { row := wholeSilentUptoRow, standIns := [], harness := (true, "88a5ae5d3066159935a0651a3ff4ee70ae5fcf3e57475cf9011b54b43ce5ad1b"), looks := false }, kinds := [], alts := [], laidByText := true, laidKinds := [.data, .data, .data], laidTests := true, laidLooks := .later }
def WholeSilentUptoCardSaid : Prop := Claim7.holds Tryz.pinned (.plain (OpenSpec.upto wholeSilentSpec)) wholeSilentUptoCard

/-- THE SECOND FORM's CARD OF 'liftwelltop.WholeBusy'. -/
def wholeBusyUptoCard : Claim7 := { stood := { row := wholeBusyUptoRow, standIns := [], harness := (true, "88a5ae5d3066159935a0651a3ff4ee70ae5fcf3e57475cf9011b54b43ce5ad1b"), looks := false }, kinds := [], alts := [], laidByText := true, laidKinds := [.data, .data, .data], laidTests := true, laidLooks := .later }
def WholeBusyUptoCardSaid : Prop := Claim7.holds Tryz.pinned (.plain (OpenSpec.upto wholeBusySpec)) wholeBusyUptoCard

/-- THE SECOND FORM's CARD OF 'liftwelltop.WholeAgain'. -/
def wholeAgainUptoCard : Claim7 := { stood := { row := wholeAgainUptoRow, standIns := [], harness := (true, "88a5ae5d3066159935a0651a3ff4ee70ae5fcf3e57475cf9011b54b43ce5ad1b"), looks := false }, kinds := [], alts := [], laidByText := true, laidKinds := [.data, .data, .data], laidTests := true, laidLooks := .later }
def WholeAgainUptoCardSaid : Prop := Claim7.holds Tryz.pinned (.plain (OpenSpec.upto wholeAgainSpec)) wholeAgainUptoCard
end Rows
end Go.Proofs.YtepfmfalebmcnaaGreatDoor
