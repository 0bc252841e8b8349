/-
  DERIVED. GIVEN WITH THE SEED: THE CARDS: each row of YtgoflehllhccgaaGreatDoorRows.lean that lists a variable, with what it lists TIED to the program's text (the seventh form; the later family's looks); each row that meets fmt, with fmt's text TOLD by the authors' own Lean function (tested against real Go, not proved from fmt's source: count such statements apart). THE CARD IS WHAT COUNTS. Prove the row's statement (the work); the ties are given (YtgoflehllhccgaaGreatDoorTie.lean); close each card by the builder's one call (the guide's Derived/Test/ToyasCard.lean, 'card_holds'). Laid BY PROGRAM, IN A SANDBOX (cutbox-door.mjs). By AI agents, Wed Nov 11 2026. No macro, syntax, notation, axiom, sorry.
-/
import Derived.Test.YtgoflehllhccgaaGreatDoorRows
import GoSem.ClaimSeven
namespace Go.Proofs.YtgoflehllhccgaaGreatDoor
namespace Rows

/-- THE TIED CARD OF 'dormouselaw09.HeapCycles'. -/
def heapCyclesCard : Claim7 := { stood := { row := heapCyclesRow, standIns := [], harness := (true, "a66690423bd3a6b9af4221e4c56a9ba33dd0ddf0432e85e9e6c39839489ea357"), looks := true }, kinds := [], alts := [], laidByText := true, laidKinds := [.data, .data, .data, .sentinel, .sentinel], laidTests := true, laidLooks := .later }
def HeapCyclesCardSaid : Prop := Claim7.holds Tryz.pinned (.plain (OpenSpec.ofChange heapCyclesSpec)) heapCyclesCard

/-- THE TIED CARD OF 'dormouselaw09.HeapOver'. -/
def heapOverCard : Claim7 := { stood := { row := heapOverRow, standIns := [], harness := (true, "a66690423bd3a6b9af4221e4c56a9ba33dd0ddf0432e85e9e6c39839489ea357"), looks := true }, kinds := [], alts := [], laidByText := true, laidKinds := [.data, .data, .data, .sentinel, .sentinel], laidTests := true, laidLooks := .later }
def HeapOverCardSaid : Prop := Claim7.holds Tryz.pinned (.plain (OpenSpec.ofChange heapOverSpec)) heapOverCard

/-- THE TIED CARD OF 'dormouselaw12.RingPlays'. -/
def ringPlaysCard : Claim7 := { stood := { row := ringPlaysRow, standIns := [], harness := (true, "a66690423bd3a6b9af4221e4c56a9ba33dd0ddf0432e85e9e6c39839489ea357"), looks := true }, kinds := [], alts := [], laidByText := true, laidKinds := [.data, .data, .data, .sentinel, .sentinel], laidTests := true, laidLooks := .later }
def RingPlaysCardSaid : Prop := Claim7.holds Tryz.pinned (.plain (OpenSpec.ofChange ringPlaysSpec)) ringPlaysCard

/-- THE TIED CARD OF 'dormouselaw18.ChooseRound'. -/
def chooseRoundCard : Claim7 := { stood := { row := chooseRoundRow, standIns := [], harness := (true, "a66690423bd3a6b9af4221e4c56a9ba33dd0ddf0432e85e9e6c39839489ea357"), looks := true }, kinds := [], alts := [], laidByText := true, laidKinds := [.data, .data, .data], laidTests := true, laidLooks := .later }
def ChooseRoundCardSaid : Prop := Claim7.holds Tryz.pinned (.plain (OpenSpec.ofChange chooseRoundSpec)) chooseRoundCard

/-- THE SECOND FORM's CARD OF 'dormouselaw09.HeapCycles'. -/
def heapCyclesUptoCard : Claim7 := { stood := { row := heapCyclesUptoRow, standIns := [], harness := (true, "a66690423bd3a6b9af4221e4c56a9ba33dd0ddf0432e85e9e6c39839489ea357"), looks := true }, kinds := [], alts := [], laidByText := true, laidKinds := [.data, .data, .data, .sentinel, .sentinel], laidTests := true, laidLooks := .later }
def HeapCyclesUptoCardSaid : Prop := Claim7.holds Tryz.pinned (.plain (OpenSpec.upto heapCyclesSpec)) heapCyclesUptoCard

/-- THE SECOND FORM's CARD OF 'dormouselaw09.HeapOver'. -/
def heapOverUptoCard : Claim7 := { stood := { row := heapOverUptoRow, standIns := [], harness := (true, "a66690423bd3a6b9af4221e4c56a9ba33dd0ddf0432e85e9e6c39839489ea357"), looks := true }, kinds := [], alts := [], laidByText := true, laidKinds := [.data, .data, .data, .sentinel, .sentinel], laidTests := true, laidLooks := .later }
def HeapOverUptoCardSaid : Prop := Claim7.holds Tryz.pinned (.plain (OpenSpec.upto heapOverSpec)) heapOverUptoCard

/-- THE SECOND FORM's CARD OF 'dormouselaw12.RingPlays'. -/
def ringPlaysUptoCard : Claim7 := { stood := { row := ringPlaysUptoRow, standIns := [], harness := (true, "a66690423bd3a6b9af4221e4c56a9ba33dd0ddf0432e85e9e6c39839489ea357"), looks := true }, kinds := [], alts := [], laidByText := true, laidKinds := [.data, .data, .data, .sentinel, .sentinel], laidTests := true, laidLooks := .later }
def RingPlaysUptoCardSaid : Prop := Claim7.holds Tryz.pinned (.plain (OpenSpec.upto ringPlaysSpec)) ringPlaysUptoCard

/-- THE SECOND FORM's CARD OF 'dormouselaw18.ChooseRound'. -/
def chooseRoundUptoCard : Claim7 := { stood := { row := chooseRoundUptoRow, standIns := [], harness := (true, "a66690423bd3a6b9af4221e4c56a9ba33dd0ddf0432e85e9e6c39839489ea357"), looks := true }, kinds := [], alts := [], laidByText := true, laidKinds := [.data, .data, .data], laidTests := true, laidLooks := .later }
def ChooseRoundUptoCardSaid : Prop := Claim7.holds Tryz.pinned (.plain (OpenSpec.upto chooseRoundSpec)) chooseRoundUptoCard
end Rows
end Go.Proofs.YtgoflehllhccgaaGreatDoor
