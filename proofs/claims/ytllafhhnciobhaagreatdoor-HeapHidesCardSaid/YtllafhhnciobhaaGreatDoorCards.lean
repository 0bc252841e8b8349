/-
  DERIVED. GIVEN WITH THE SEED: THE CARDS: each row of YtllafhhnciobhaaGreatDoorRows.lean that lists a variable, with what it lists TIED to the program's text (the seventh form; the later family's looks); each row that meets fmt, with fmt's text TOLD by the authors' own Lean function (tested against real Go, not proved from fmt's source: count such statements apart). THE CARD IS WHAT COUNTS. Prove the row's statement (the work); the ties are given (YtllafhhnciobhaaGreatDoorTie.lean); close each card by the builder's one call (the guide's Derived/Test/ToyasCard.lean, 'card_holds'). Laid BY PROGRAM, IN A SANDBOX (cutbox-door.mjs). By AI agents, Wed Nov 11 2026. No macro, syntax, notation, axiom, sorry.
-/
import Derived.Test.YtllafhhnciobhaaGreatDoorRows
import GoSem.ClaimSeven
namespace Go.Proofs.YtllafhhnciobhaaGreatDoor
namespace Rows

/-- THE TIED CARD OF 'dormouselaw09.HeapPlays'. -/
def heapPlaysCard : Claim7 := { stood := { row := heapPlaysRow, standIns := [], harness := (true, "c82226d0e7abe1fd4ef090ae677906714217177a418ad10e63739d4944b752ca"), looks := true }, kinds := [], alts := [], laidByText := true, laidKinds := [.data, .data, .data, .sentinel, .sentinel], laidTests := true, laidLooks := .later }
def HeapPlaysCardSaid : Prop := Claim7.holds Tryz.pinned (.plain (OpenSpec.ofChange heapPlaysSpec)) heapPlaysCard

/-- THE TIED CARD OF 'dormouselaw09.HeapDark'. -/
def heapDarkCard : Claim7 := { stood := { row := heapDarkRow, standIns := [], harness := (true, "c82226d0e7abe1fd4ef090ae677906714217177a418ad10e63739d4944b752ca"), looks := true }, kinds := [], alts := [], laidByText := true, laidKinds := [.data, .data, .data, .sentinel, .sentinel], laidTests := true, laidLooks := .later }
def HeapDarkCardSaid : Prop := Claim7.holds Tryz.pinned (.plain (OpenSpec.ofChange heapDarkSpec)) heapDarkCard

/-- THE TIED CARD OF 'dormouselaw09.HeapCycles'. -/
def heapCyclesCard : Claim7 := { stood := { row := heapCyclesRow, standIns := [], harness := (true, "c82226d0e7abe1fd4ef090ae677906714217177a418ad10e63739d4944b752ca"), looks := true }, kinds := [], alts := [], laidByText := true, laidKinds := [.data, .data, .data, .sentinel, .sentinel], laidTests := true, laidLooks := .later }
def HeapCyclesCardSaid : Prop := Claim7.holds Tryz.pinned (.plain (OpenSpec.ofChange heapCyclesSpec)) heapCyclesCard

/-- THE TIED CARD OF 'dormouselaw09.HeapAllots'. -/
def heapAllotsCard : Claim7 := { stood := { row := heapAllotsRow, standIns := [], harness := (true, "c82226d0e7abe1fd4ef090ae677906714217177a418ad10e63739d4944b752ca"), looks := true }, kinds := [], alts := [], laidByText := true, laidKinds := [.data, .data, .data, .sentinel, .sentinel], laidTests := true, laidLooks := .later }
def HeapAllotsCardSaid : Prop := Claim7.holds Tryz.pinned (.plain (OpenSpec.ofChange heapAllotsSpec)) heapAllotsCard

/-- THE TIED CARD OF 'dormouselaw09.HeapNil'. -/
def heapNilCard : Claim7 := { stood := { row := heapNilRow, standIns := [], harness := (true, "c82226d0e7abe1fd4ef090ae677906714217177a418ad10e63739d4944b752ca"), looks := true }, kinds := [], alts := [], laidByText := true, laidKinds := [.data, .data, .data, .sentinel, .sentinel], laidTests := true, laidLooks := .later }
def HeapNilCardSaid : Prop := Claim7.holds Tryz.pinned (.plain (OpenSpec.ofChange heapNilSpec)) heapNilCard

/-- THE TIED CARD OF 'dormouselaw09.HeapOver'. -/
def heapOverCard : Claim7 := { stood := { row := heapOverRow, standIns := [], harness := (true, "c82226d0e7abe1fd4ef090ae677906714217177a418ad10e63739d4944b752ca"), looks := true }, kinds := [], alts := [], laidByText := true, laidKinds := [.data, .data, .data, .sentinel, .sentinel], laidTests := true, laidLooks := .later }
def HeapOverCardSaid : Prop := Claim7.holds Tryz.pinned (.plain (OpenSpec.ofChange heapOverSpec)) heapOverCard

/-- THE TIED CARD OF 'dormouselaw09.HeapHides'. -/
def heapHidesCard : Claim7 := { stood := { row := heapHidesRow, standIns := [], harness := (true, "c82226d0e7abe1fd4ef090ae677906714217177a418ad10e63739d4944b752ca"), looks := true }, kinds := [], alts := [], laidByText := true, laidKinds := [.data, .data, .data, .sentinel, .sentinel], laidTests := true, laidLooks := .later }
def HeapHidesCardSaid : Prop := Claim7.holds Tryz.pinned (.plain (OpenSpec.ofChange heapHidesSpec)) heapHidesCard

/-- THE TIED CARD OF 'dormouselaw09.HeapFinals'. -/
def heapFinalsCard : Claim7 := { stood := { row := heapFinalsRow, standIns := [], harness := (true, "c82226d0e7abe1fd4ef090ae677906714217177a418ad10e63739d4944b752ca"), looks := true }, kinds := [], alts := [], laidByText := true, laidKinds := [.data, .data, .data, .sentinel, .sentinel], laidTests := true, laidLooks := .later }
def HeapFinalsCardSaid : Prop := Claim7.holds Tryz.pinned (.plain (OpenSpec.ofChange heapFinalsSpec)) heapFinalsCard

/-- THE SECOND FORM's CARD OF 'dormouselaw09.HeapPlays'. -/
def heapPlaysUptoCard : Claim7 := { stood := { row := heapPlaysUptoRow, standIns := [], harness := (true, "c82226d0e7abe1fd4ef090ae677906714217177a418ad10e63739d4944b752ca"), looks := true }, kinds := [], alts := [], laidByText := true, laidKinds := [.data, .data, .data, .sentinel, .sentinel], laidTests := true, laidLooks := .later }
def HeapPlaysUptoCardSaid : Prop := Claim7.holds Tryz.pinned (.plain (OpenSpec.upto heapPlaysSpec)) heapPlaysUptoCard

/-- THE SECOND FORM's CARD OF 'dormouselaw09.HeapDark'. -/
def heapDarkUptoCard : Claim7 := { stood := { row := heapDarkUptoRow, standIns := [], harness := (true, "c82226d0e7abe1fd4ef090ae677906714217177a418ad10e63739d4944b752ca"), looks := true }, kinds := [], alts := [], laidByText := true, laidKinds := [.data, .data, .data, .sentinel, .sentinel], laidTests := true, laidLooks := .later }
def HeapDarkUptoCardSaid : Prop := Claim7.holds Tryz.pinned (.plain (OpenSpec.upto heapDarkSpec)) heapDarkUptoCard

/-- THE SECOND FORM's CARD OF 'dormouselaw09.HeapCycles'. -/
def heapCyclesUptoCard : Claim7 := { stood := { row := heapCyclesUptoRow, standIns := [], harness := (true, "c82226d0e7abe1fd4ef090ae677906714217177a418ad10e63739d4944b752ca"), looks := true }, kinds := [], alts := [], laidByText := true, laidKinds := [.data, .data, .data, .sentinel, .sentinel], laidTests := true, laidLooks := .later }
def HeapCyclesUptoCardSaid : Prop := Claim7.holds Tryz.pinned (.plain (OpenSpec.upto heapCyclesSpec)) heapCyclesUptoCard

/-- THE SECOND FORM's CARD OF 'dormouselaw09.HeapAllots'. -/
def heapAllotsUptoCard : Claim7 := { stood := { row := heapAllotsUptoRow, standIns := [], harness := (true, "c82226d0e7abe1fd4ef090ae677906714217177a418ad10e63739d4944b752ca"), looks := true }, kinds := [], alts := [], laidByText := true, laidKinds := [.data, .data, .data, .sentinel, .sentinel], laidTests := true, laidLooks := .later }
def HeapAllotsUptoCardSaid : Prop := Claim7.holds Tryz.pinned (.plain (OpenSpec.upto heapAllotsSpec)) heapAllotsUptoCard

/-- THE SECOND FORM's CARD OF 'dormouselaw09.HeapNil'. -/
def heapNilUptoCard : Claim7 := { stood := { row := heapNilUptoRow, standIns := [], harness := (true, "c82226d0e7abe1fd4ef090ae677906714217177a418ad10e63739d4944b752ca"), looks := true }, kinds := [], alts := [], laidByText := true, laidKinds := [.data, .data, .data, .sentinel, .sentinel], laidTests := true, laidLooks := .later }
def HeapNilUptoCardSaid : Prop := Claim7.holds Tryz.pinned (.plain (OpenSpec.upto heapNilSpec)) heapNilUptoCard

/-- THE SECOND FORM's CARD OF 'dormouselaw09.HeapOver'. -/
def heapOverUptoCard : Claim7 := { stood := { row := heapOverUptoRow, standIns := [], harness := (true, "c82226d0e7abe1fd4ef090ae677906714217177a418ad10e63739d4944b752ca"), looks := true }, kinds := [], alts := [], laidByText := true, laidKinds := [.data, .data, .data, .sentinel, .sentinel], laidTests := true, laidLooks := .later }
def HeapOverUptoCardSaid : Prop := Claim7.holds Tryz.pinned (.plain (OpenSpec.upto heapOverSpec)) heapOverUptoCard

/-- THE SECOND FORM's CARD OF 'dormouselaw09.HeapHides'. -/
def heapHidesUptoCard : Claim7 := { stood := { row := heapHidesUptoRow, standIns := [], harness := (true, "c82226d0e7abe1fd4ef090ae677906714217177a418ad10e63739d4944b752ca"), looks := true }, kinds := [], alts := [], laidByText := true, laidKinds := [.data, .data, .data, .sentinel, .sentinel], laidTests := true, laidLooks := .later }
def HeapHidesUptoCardSaid : Prop := Claim7.holds Tryz.pinned (.plain (OpenSpec.upto heapHidesSpec)) heapHidesUptoCard

/-- THE SECOND FORM's CARD OF 'dormouselaw09.HeapFinals'. -/
def heapFinalsUptoCard : Claim7 := { stood := { row := heapFinalsUptoRow, standIns := [], harness := (true, "c82226d0e7abe1fd4ef090ae677906714217177a418ad10e63739d4944b752ca"), looks := true }, kinds := [], alts := [], laidByText := true, laidKinds := [.data, .data, .data, .sentinel, .sentinel], laidTests := true, laidLooks := .later }
def HeapFinalsUptoCardSaid : Prop := Claim7.holds Tryz.pinned (.plain (OpenSpec.upto heapFinalsSpec)) heapFinalsUptoCard
end Rows
end Go.Proofs.YtllafhhnciobhaaGreatDoor
