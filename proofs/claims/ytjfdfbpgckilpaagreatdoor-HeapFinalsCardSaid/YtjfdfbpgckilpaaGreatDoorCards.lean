/-
  DERIVED. GIVEN WITH THE SEED: THE CARDS: each row of YtjfdfbpgckilpaaGreatDoorRows.lean that lists a variable, with what it lists TIED to the program's text (the seventh form; the later family's looks); each row that meets fmt, with fmt's text TOLD by the authors' own Lean function (tested against real Go, not proved from fmt's source: count such statements apart). THE CARD IS WHAT COUNTS. Prove the row's statement (the work); the ties are given (YtjfdfbpgckilpaaGreatDoorTie.lean); close each card by the builder's one call (the guide's Derived/Test/ToyasCard.lean, 'card_holds'). Laid BY PROGRAM, IN A SANDBOX (cutbox-door.mjs). By AI agents, Wed Nov 11 2026. No macro, syntax, notation, axiom, sorry.
-/
import Derived.Test.YtjfdfbpgckilpaaGreatDoorRows
import GoSem.ClaimSeven
namespace Go.Proofs.YtjfdfbpgckilpaaGreatDoor
namespace Rows

/-- THE TIED CARD OF 'dormouselaw09.HeapFinals'. -/
def heapFinalsCard : Claim7 := { stood := { row := heapFinalsRow, standIns := [], harness := (true, "efbee22b1183df83bd73d43f7e27d676ad14c615a5cd1704db1245eb09db0f43"), looks := true }, kinds := [], alts := [], laidByText := true, laidKinds := [.data, .data, .data, .sentinel, .sentinel], laidTests := true, laidLooks := .later }
def HeapFinalsCardSaid : Prop := Claim7.holds Tryz.pinned (.plain (OpenSpec.ofChange heapFinalsSpec)) heapFinalsCard

/-- THE TIED CARD OF 'dormouselaw12.RingPlays'. -/
def ringPlaysCard : Claim7 := { stood := { row := ringPlaysRow, standIns := [], harness := (true, "efbee22b1183df83bd73d43f7e27d676ad14c615a5cd1704db1245eb09db0f43"), looks := true }, kinds := [], alts := [], laidByText := true, laidKinds := [.data, .data, .data, .sentinel, .sentinel], laidTests := true, laidLooks := .later }
def RingPlaysCardSaid : Prop := Claim7.holds Tryz.pinned (.plain (OpenSpec.ofChange ringPlaysSpec)) ringPlaysCard

/-- THE TIED CARD OF 'dormouselaw18.ChooseRound'. -/
def chooseRoundCard : Claim7 := { stood := { row := chooseRoundRow, standIns := [], harness := (true, "efbee22b1183df83bd73d43f7e27d676ad14c615a5cd1704db1245eb09db0f43"), looks := true }, kinds := [], alts := [], laidByText := true, laidKinds := [.data, .data, .data], laidTests := true, laidLooks := .later }
def ChooseRoundCardSaid : Prop := Claim7.holds Tryz.pinned (.plain (OpenSpec.ofChange chooseRoundSpec)) chooseRoundCard

/-- THE TIED CARD OF 'dormouselaw22.LiveTells'. -/
def liveTellsCard : Claim7 := { stood := { row := liveTellsRow, standIns := [], harness := (true, "efbee22b1183df83bd73d43f7e27d676ad14c615a5cd1704db1245eb09db0f43"), looks := true }, kinds := [], alts := [], laidByText := true, laidKinds := [.data, .data, .data], laidTests := true, laidLooks := .later }
def LiveTellsCardSaid : Prop := Claim7.holds Tryz.pinned (.plain (OpenSpec.ofChange liveTellsSpec)) liveTellsCard

/-- THE TIED CARD OF 'dormouselaw22.LiveParts'. -/
def livePartsCard : Claim7 := { stood := { row := livePartsRow, standIns := [], harness := (true, "efbee22b1183df83bd73d43f7e27d676ad14c615a5cd1704db1245eb09db0f43"), looks := true }, kinds := [], alts := [], laidByText := true, laidKinds := [.data, .data, .data], laidTests := true, laidLooks := .later }
def LivePartsCardSaid : Prop := Claim7.holds Tryz.pinned (.plain (OpenSpec.ofChange livePartsSpec)) livePartsCard

/-- THE TIED CARD OF 'dormouselaw22.LiveChain'. -/
def liveChainCard : Claim7 := { stood := { row := liveChainRow, standIns := [], harness := (true, "efbee22b1183df83bd73d43f7e27d676ad14c615a5cd1704db1245eb09db0f43"), looks := true }, kinds := [], alts := [], laidByText := true, laidKinds := [.data, .data, .data], laidTests := true, laidLooks := .later }
def LiveChainCardSaid : Prop := Claim7.holds Tryz.pinned (.plain (OpenSpec.ofChange liveChainSpec)) liveChainCard

/-- THE TIED CARD OF 'dormouselaw22.LiveNone'. -/
def liveNoneCard : Claim7 := { stood := { row := liveNoneRow, standIns := [], harness := (true, "efbee22b1183df83bd73d43f7e27d676ad14c615a5cd1704db1245eb09db0f43"), looks := true }, kinds := [], alts := [], laidByText := true, laidKinds := [.data, .data, .data], laidTests := true, laidLooks := .later }
def LiveNoneCardSaid : Prop := Claim7.holds Tryz.pinned (.plain (OpenSpec.ofChange liveNoneSpec)) liveNoneCard

/-- THE SECOND FORM's CARD OF 'dormouselaw09.HeapFinals'. -/
def heapFinalsUptoCard : Claim7 := { stood := { row := heapFinalsUptoRow, standIns := [], harness := (true, "efbee22b1183df83bd73d43f7e27d676ad14c615a5cd1704db1245eb09db0f43"), looks := true }, kinds := [], alts := [], laidByText := true, laidKinds := [.data, .data, .data, .sentinel, .sentinel], laidTests := true, laidLooks := .later }
def HeapFinalsUptoCardSaid : Prop := Claim7.holds Tryz.pinned (.plain (OpenSpec.upto heapFinalsSpec)) heapFinalsUptoCard

/-- THE SECOND FORM's CARD OF 'dormouselaw12.RingPlays'. -/
def ringPlaysUptoCard : Claim7 := { stood := { row := ringPlaysUptoRow, standIns := [], harness := (true, "efbee22b1183df83bd73d43f7e27d676ad14c615a5cd1704db1245eb09db0f43"), looks := true }, kinds := [], alts := [], laidByText := true, laidKinds := [.data, .data, .data, .sentinel, .sentinel], laidTests := true, laidLooks := .later }
def RingPlaysUptoCardSaid : Prop := Claim7.holds Tryz.pinned (.plain (OpenSpec.upto ringPlaysSpec)) ringPlaysUptoCard

/-- THE SECOND FORM's CARD OF 'dormouselaw18.ChooseRound'. -/
def chooseRoundUptoCard : Claim7 := { stood := { row := chooseRoundUptoRow, standIns := [], harness := (true, "efbee22b1183df83bd73d43f7e27d676ad14c615a5cd1704db1245eb09db0f43"), looks := true }, kinds := [], alts := [], laidByText := true, laidKinds := [.data, .data, .data], laidTests := true, laidLooks := .later }
def ChooseRoundUptoCardSaid : Prop := Claim7.holds Tryz.pinned (.plain (OpenSpec.upto chooseRoundSpec)) chooseRoundUptoCard

/-- THE SECOND FORM's CARD OF 'dormouselaw22.LiveTells'. -/
def liveTellsUptoCard : Claim7 := { stood := { row := liveTellsUptoRow, standIns := [], harness := (true, "efbee22b1183df83bd73d43f7e27d676ad14c615a5cd1704db1245eb09db0f43"), looks := true }, kinds := [], alts := [], laidByText := true, laidKinds := [.data, .data, .data], laidTests := true, laidLooks := .later }
def LiveTellsUptoCardSaid : Prop := Claim7.holds Tryz.pinned (.plain (OpenSpec.upto liveTellsSpec)) liveTellsUptoCard

/-- THE SECOND FORM's CARD OF 'dormouselaw22.LiveParts'. -/
def livePartsUptoCard : Claim7 := { stood := { row := livePartsUptoRow, standIns := [], harness := (true, "efbee22b1183df83bd73d43f7e27d676ad14c615a5cd1704db1245eb09db0f43"), looks := true }, kinds := [], alts := [], laidByText := true, laidKinds := [.data, .data, .data], laidTests := true, laidLooks := .later }
def LivePartsUptoCardSaid : Prop := Claim7.holds Tryz.pinned (.plain (OpenSpec.upto livePartsSpec)) livePartsUptoCard

/-- THE SECOND FORM's CARD OF 'dormouselaw22.LiveChain'. -/
def liveChainUptoCard : Claim7 := { stood := { row := liveChainUptoRow, standIns := [], harness := (true, "efbee22b1183df83bd73d43f7e27d676ad14c615a5cd1704db1245eb09db0f43"), looks := true }, kinds := [], alts := [], laidByText := true, laidKinds := [.data, .data, .data], laidTests := true, laidLooks := .later }
def LiveChainUptoCardSaid : Prop := Claim7.holds Tryz.pinned (.plain (OpenSpec.upto liveChainSpec)) liveChainUptoCard

/-- THE SECOND FORM's CARD OF 'dormouselaw22.LiveNone'. -/
def liveNoneUptoCard : Claim7 := { stood := { row := liveNoneUptoRow, standIns := [], harness := (true, "efbee22b1183df83bd73d43f7e27d676ad14c615a5cd1704db1245eb09db0f43"), looks := true }, kinds := [], alts := [], laidByText := true, laidKinds := [.data, .data, .data], laidTests := true, laidLooks := .later }
def LiveNoneUptoCardSaid : Prop := Claim7.holds Tryz.pinned (.plain (OpenSpec.upto liveNoneSpec)) liveNoneUptoCard
end Rows
end Go.Proofs.YtjfdfbpgckilpaaGreatDoor
