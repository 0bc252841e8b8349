/-
  DERIVED. GIVEN WITH THE SEED: THE CARDS: each row of YtmpgphfebifbaaaGreatDoorRows.lean that lists a variable, with what it lists TIED to the program's text (the seventh form; the later family's looks); each row that meets fmt, with fmt's text TOLD by the authors' own Lean function (tested against real Go, not proved from fmt's source: count such statements apart). THE CARD IS WHAT COUNTS. Prove the row's statement (the work); the ties are given (YtmpgphfebifbaaaGreatDoorTie.lean); close each card by the builder's one call (the guide's Derived/Test/ToyasCard.lean, 'card_holds'). Laid BY PROGRAM, IN A SANDBOX (cutbox-door.mjs). By AI agents, Wed Nov 11 2026. No macro, syntax, notation, axiom, sorry.
-/
import Derived.Test.YtmpgphfebifbaaaGreatDoorRows
import GoSem.ClaimSeven
namespace Go.Proofs.YtmpgphfebifbaaaGreatDoor
namespace Rows

/-- THE TIED CARD OF 'dormouselaw09.HeapCycles'. -/
def heapCyclesCard : Claim7 := { stood := { row := heapCyclesRow, standIns := [], harness := (true, "5430271ea8c6250653df9ddb4b8cfac485d94fa7d168d7ef0e63464f5f0a8bea"), looks := true }, kinds := [], alts := [], laidByText := true, laidKinds := [.data, .data, .data, .sentinel, .sentinel], laidTests := true, laidLooks := .later }
def HeapCyclesCardSaid : Prop := Claim7.holds Tryz.pinned (.plain (OpenSpec.ofChange heapCyclesSpec)) heapCyclesCard

/-- THE TIED CARD OF 'dormouselaw09.HeapOver'. -/
def heapOverCard : Claim7 := { stood := { row := heapOverRow, standIns := [], harness := (true, "5430271ea8c6250653df9ddb4b8cfac485d94fa7d168d7ef0e63464f5f0a8bea"), looks := true }, kinds := [], alts := [], laidByText := true, laidKinds := [.data, .data, .data, .sentinel, .sentinel], laidTests := true, laidLooks := .later }
def HeapOverCardSaid : Prop := Claim7.holds Tryz.pinned (.plain (OpenSpec.ofChange heapOverSpec)) heapOverCard

/-- THE TIED CARD OF 'dormouselaw12.RingPlays'. -/
def ringPlaysCard : Claim7 := { stood := { row := ringPlaysRow, standIns := [], harness := (true, "5430271ea8c6250653df9ddb4b8cfac485d94fa7d168d7ef0e63464f5f0a8bea"), looks := true }, kinds := [], alts := [], laidByText := true, laidKinds := [.data, .data, .data, .sentinel, .sentinel], laidTests := true, laidLooks := .later }
def RingPlaysCardSaid : Prop := Claim7.holds Tryz.pinned (.plain (OpenSpec.ofChange ringPlaysSpec)) ringPlaysCard

/-- THE TIED CARD OF 'dormouselaw12.RingTurns'. -/
def ringTurnsCard : Claim7 := { stood := { row := ringTurnsRow, standIns := [], harness := (true, "5430271ea8c6250653df9ddb4b8cfac485d94fa7d168d7ef0e63464f5f0a8bea"), looks := true }, kinds := [], alts := [], laidByText := true, laidKinds := [.data, .data, .data], laidTests := true, laidLooks := .later }
def RingTurnsCardSaid : Prop := Claim7.holds Tryz.pinned (.plain (OpenSpec.ofChange ringTurnsSpec)) ringTurnsCard

/-- THE TIED CARD OF 'dormouselaw12.RingRefuses'. -/
def ringRefusesCard : Claim7 := { stood := { row := ringRefusesRow, standIns := [], harness := (true, "5430271ea8c6250653df9ddb4b8cfac485d94fa7d168d7ef0e63464f5f0a8bea"), looks := true }, kinds := [], alts := [], laidByText := true, laidKinds := [.data, .data, .data], laidTests := true, laidLooks := .later }
def RingRefusesCardSaid : Prop := Claim7.holds Tryz.pinned (.plain (OpenSpec.ofChange ringRefusesSpec)) ringRefusesCard

/-- THE TIED CARD OF 'dormouselaw12.RingEmpty'. -/
def ringEmptyCard : Claim7 := { stood := { row := ringEmptyRow, standIns := [], harness := (true, "5430271ea8c6250653df9ddb4b8cfac485d94fa7d168d7ef0e63464f5f0a8bea"), looks := true }, kinds := [], alts := [], laidByText := true, laidKinds := [.data, .data, .data], laidTests := true, laidLooks := .later }
def RingEmptyCardSaid : Prop := Claim7.holds Tryz.pinned (.plain (OpenSpec.ofChange ringEmptySpec)) ringEmptyCard

/-- THE TIED CARD OF 'dormouselaw12.RingApart'. -/
def ringApartCard : Claim7 := { stood := { row := ringApartRow, standIns := [], harness := (true, "5430271ea8c6250653df9ddb4b8cfac485d94fa7d168d7ef0e63464f5f0a8bea"), looks := true }, kinds := [], alts := [], laidByText := true, laidKinds := [.data, .data, .data], laidTests := true, laidLooks := .later }
def RingApartCardSaid : Prop := Claim7.holds Tryz.pinned (.plain (OpenSpec.ofChange ringApartSpec)) ringApartCard

/-- THE TIED CARD OF 'dormouselaw13.ListRefuses'. -/
def listRefusesCard : Claim7 := { stood := { row := listRefusesRow, standIns := [], harness := (true, "5430271ea8c6250653df9ddb4b8cfac485d94fa7d168d7ef0e63464f5f0a8bea"), looks := true }, kinds := [], alts := [], laidByText := true, laidKinds := [.data, .data, .data], laidTests := true, laidLooks := .later }
def ListRefusesCardSaid : Prop := Claim7.holds Tryz.pinned (.plain (OpenSpec.ofChange listRefusesSpec)) listRefusesCard

/-- THE TIED CARD OF 'dormouselaw13.ListEnds'. -/
def listEndsCard : Claim7 := { stood := { row := listEndsRow, standIns := [], harness := (true, "5430271ea8c6250653df9ddb4b8cfac485d94fa7d168d7ef0e63464f5f0a8bea"), looks := true }, kinds := [], alts := [], laidByText := true, laidKinds := [.data, .data, .data], laidTests := true, laidLooks := .later }
def ListEndsCardSaid : Prop := Claim7.holds Tryz.pinned (.plain (OpenSpec.ofChange listEndsSpec)) listEndsCard

/-- THE TIED CARD OF 'dormouselaw14.WakeNowhere'. -/
def wakeNowhereCard : Claim7 := { stood := { row := wakeNowhereRow, standIns := [], harness := (true, "5430271ea8c6250653df9ddb4b8cfac485d94fa7d168d7ef0e63464f5f0a8bea"), looks := true }, kinds := [], alts := [], laidByText := true, laidKinds := [.data, .data, .data], laidTests := true, laidLooks := .later }
def WakeNowhereCardSaid : Prop := Claim7.holds Tryz.pinned (.plain (OpenSpec.ofChange wakeNowhereSpec)) wakeNowhereCard

/-- THE TIED CARD OF 'dormouselaw14.WakeParks'. -/
def wakeParksCard : Claim7 := { stood := { row := wakeParksRow, standIns := [], harness := (true, "5430271ea8c6250653df9ddb4b8cfac485d94fa7d168d7ef0e63464f5f0a8bea"), looks := true }, kinds := [], alts := [], laidByText := true, laidKinds := [.data, .data, .data], laidTests := true, laidLooks := .later }
def WakeParksCardSaid : Prop := Claim7.holds Tryz.pinned (.plain (OpenSpec.ofChange wakeParksSpec)) wakeParksCard

/-- THE TIED CARD OF 'dormouselaw14.WakeRegs'. -/
def wakeRegsCard : Claim7 := { stood := { row := wakeRegsRow, standIns := [], harness := (true, "5430271ea8c6250653df9ddb4b8cfac485d94fa7d168d7ef0e63464f5f0a8bea"), looks := true }, kinds := [], alts := [], laidByText := true, laidKinds := [.data, .data, .data], laidTests := true, laidLooks := .later }
def WakeRegsCardSaid : Prop := Claim7.holds Tryz.pinned (.plain (OpenSpec.ofChange wakeRegsSpec)) wakeRegsCard

/-- THE SECOND FORM's CARD OF 'dormouselaw09.HeapCycles'. -/
def heapCyclesUptoCard : Claim7 := { stood := { row := heapCyclesUptoRow, standIns := [], harness := (true, "5430271ea8c6250653df9ddb4b8cfac485d94fa7d168d7ef0e63464f5f0a8bea"), looks := true }, kinds := [], alts := [], laidByText := true, laidKinds := [.data, .data, .data, .sentinel, .sentinel], laidTests := true, laidLooks := .later }
def HeapCyclesUptoCardSaid : Prop := Claim7.holds Tryz.pinned (.plain (OpenSpec.upto heapCyclesSpec)) heapCyclesUptoCard

/-- THE SECOND FORM's CARD OF 'dormouselaw09.HeapOver'. -/
def heapOverUptoCard : Claim7 := { stood := { row := heapOverUptoRow, standIns := [], harness := (true, "5430271ea8c6250653df9ddb4b8cfac485d94fa7d168d7ef0e63464f5f0a8bea"), looks := true }, kinds := [], alts := [], laidByText := true, laidKinds := [.data, .data, .data, .sentinel, .sentinel], laidTests := true, laidLooks := .later }
def HeapOverUptoCardSaid : Prop := Claim7.holds Tryz.pinned (.plain (OpenSpec.upto heapOverSpec)) heapOverUptoCard

/-- THE SECOND FORM's CARD OF 'dormouselaw12.RingPlays'. -/
def ringPlaysUptoCard : Claim7 := { stood := { row := ringPlaysUptoRow, standIns := [], harness := (true, "5430271ea8c6250653df9ddb4b8cfac485d94fa7d168d7ef0e63464f5f0a8bea"), looks := true }, kinds := [], alts := [], laidByText := true, laidKinds := [.data, .data, .data, .sentinel, .sentinel], laidTests := true, laidLooks := .later }
def RingPlaysUptoCardSaid : Prop := Claim7.holds Tryz.pinned (.plain (OpenSpec.upto ringPlaysSpec)) ringPlaysUptoCard

/-- THE SECOND FORM's CARD OF 'dormouselaw12.RingTurns'. -/
def ringTurnsUptoCard : Claim7 := { stood := { row := ringTurnsUptoRow, standIns := [], harness := (true, "5430271ea8c6250653df9ddb4b8cfac485d94fa7d168d7ef0e63464f5f0a8bea"), looks := true }, kinds := [], alts := [], laidByText := true, laidKinds := [.data, .data, .data], laidTests := true, laidLooks := .later }
def RingTurnsUptoCardSaid : Prop := Claim7.holds Tryz.pinned (.plain (OpenSpec.upto ringTurnsSpec)) ringTurnsUptoCard

/-- THE SECOND FORM's CARD OF 'dormouselaw12.RingRefuses'. -/
def ringRefusesUptoCard : Claim7 := { stood := { row := ringRefusesUptoRow, standIns := [], harness := (true, "5430271ea8c6250653df9ddb4b8cfac485d94fa7d168d7ef0e63464f5f0a8bea"), looks := true }, kinds := [], alts := [], laidByText := true, laidKinds := [.data, .data, .data], laidTests := true, laidLooks := .later }
def RingRefusesUptoCardSaid : Prop := Claim7.holds Tryz.pinned (.plain (OpenSpec.upto ringRefusesSpec)) ringRefusesUptoCard

/-- THE SECOND FORM's CARD OF 'dormouselaw12.RingEmpty'. -/
def ringEmptyUptoCard : Claim7 := { stood := { row := ringEmptyUptoRow, standIns := [], harness := (true, "5430271ea8c6250653df9ddb4b8cfac485d94fa7d168d7ef0e63464f5f0a8bea"), looks := true }, kinds := [], alts := [], laidByText := true, laidKinds := [.data, .data, .data], laidTests := true, laidLooks := .later }
def RingEmptyUptoCardSaid : Prop := Claim7.holds Tryz.pinned (.plain (OpenSpec.upto ringEmptySpec)) ringEmptyUptoCard

/-- THE SECOND FORM's CARD OF 'dormouselaw12.RingApart'. -/
def ringApartUptoCard : Claim7 := { stood := { row := ringApartUptoRow, standIns := [], harness := (true, "5430271ea8c6250653df9ddb4b8cfac485d94fa7d168d7ef0e63464f5f0a8bea"), looks := true }, kinds := [], alts := [], laidByText := true, laidKinds := [.data, .data, .data], laidTests := true, laidLooks := .later }
def RingApartUptoCardSaid : Prop := Claim7.holds Tryz.pinned (.plain (OpenSpec.upto ringApartSpec)) ringApartUptoCard

/-- THE SECOND FORM's CARD OF 'dormouselaw13.ListRefuses'. -/
def listRefusesUptoCard : Claim7 := { stood := { row := listRefusesUptoRow, standIns := [], harness := (true, "5430271ea8c6250653df9ddb4b8cfac485d94fa7d168d7ef0e63464f5f0a8bea"), looks := true }, kinds := [], alts := [], laidByText := true, laidKinds := [.data, .data, .data], laidTests := true, laidLooks := .later }
def ListRefusesUptoCardSaid : Prop := Claim7.holds Tryz.pinned (.plain (OpenSpec.upto listRefusesSpec)) listRefusesUptoCard

/-- THE SECOND FORM's CARD OF 'dormouselaw13.ListEnds'. -/
def listEndsUptoCard : Claim7 := { stood := { row := listEndsUptoRow, standIns := [], harness := (true, "5430271ea8c6250653df9ddb4b8cfac485d94fa7d168d7ef0e63464f5f0a8bea"), looks := true }, kinds := [], alts := [], laidByText := true, laidKinds := [.data, .data, .data], laidTests := true, laidLooks := .later }
def ListEndsUptoCardSaid : Prop := Claim7.holds Tryz.pinned (.plain (OpenSpec.upto listEndsSpec)) listEndsUptoCard

/-- THE SECOND FORM's CARD OF 'dormouselaw14.WakeNowhere'. -/
def wakeNowhereUptoCard : Claim7 := { stood := { row := wakeNowhereUptoRow, standIns := [], harness := (true, "5430271ea8c6250653df9ddb4b8cfac485d94fa7d168d7ef0e63464f5f0a8bea"), looks := true }, kinds := [], alts := [], laidByText := true, laidKinds := [.data, .data, .data], laidTests := true, laidLooks := .later }
def WakeNowhereUptoCardSaid : Prop := Claim7.holds Tryz.pinned (.plain (OpenSpec.upto wakeNowhereSpec)) wakeNowhereUptoCard

/-- THE SECOND FORM's CARD OF 'dormouselaw14.WakeParks'. -/
def wakeParksUptoCard : Claim7 := { stood := { row := wakeParksUptoRow, standIns := [], harness := (true, "5430271ea8c6250653df9ddb4b8cfac485d94fa7d168d7ef0e63464f5f0a8bea"), looks := true }, kinds := [], alts := [], laidByText := true, laidKinds := [.data, .data, .data], laidTests := true, laidLooks := .later }
def WakeParksUptoCardSaid : Prop := Claim7.holds Tryz.pinned (.plain (OpenSpec.upto wakeParksSpec)) wakeParksUptoCard

/-- THE SECOND FORM's CARD OF 'dormouselaw14.WakeRegs'. -/
def wakeRegsUptoCard : Claim7 := { stood := { row := wakeRegsUptoRow, standIns := [], harness := (true, "5430271ea8c6250653df9ddb4b8cfac485d94fa7d168d7ef0e63464f5f0a8bea"), looks := true }, kinds := [], alts := [], laidByText := true, laidKinds := [.data, .data, .data], laidTests := true, laidLooks := .later }
def WakeRegsUptoCardSaid : Prop := Claim7.holds Tryz.pinned (.plain (OpenSpec.upto wakeRegsSpec)) wakeRegsUptoCard
end Rows
end Go.Proofs.YtmpgphfebifbaaaGreatDoor
