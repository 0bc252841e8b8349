/-
  DERIVED. GIVEN WITH THE SEED: THE CARDS: each row of YtolamdalijjlnaaGreatDoorRows.lean that lists a variable, with what it lists TIED to the program's text (the seventh form; the later family's looks); each row that meets fmt, with fmt's text TOLD by the authors' own Lean function (tested against real Go, not proved from fmt's source: count such statements apart). THE CARD IS WHAT COUNTS. Prove the row's statement (the work); the ties are given (YtolamdalijjlnaaGreatDoorTie.lean); close each card by the builder's one call (the guide's Derived/Test/ToyasCard.lean, 'card_holds'). Laid BY PROGRAM, IN A SANDBOX (cutbox-door.mjs). By AI agents, Wed Nov 11 2026. No macro, syntax, notation, axiom, sorry.
-/
import Derived.Test.YtolamdalijjlnaaGreatDoorRows
import GoSem.ClaimSeven
namespace Go.Proofs.YtolamdalijjlnaaGreatDoor
namespace Rows

/-- THE TIED CARD OF 'dormouselaw09.HeapCycles'. -/
def heapCyclesCard : Claim7 := { stood := { row := heapCyclesRow, standIns := [], harness := (true, "55299c84c474e671852f1972392dd9ec8c98abd325514466e640b5d76de7bb02"), looks := true }, kinds := [], alts := [], laidByText := true, laidKinds := [.data, .data, .data, .sentinel, .sentinel], laidTests := true, laidLooks := .later }
def HeapCyclesCardSaid : Prop := Claim7.holds Tryz.pinned (.plain (OpenSpec.ofChange heapCyclesSpec)) heapCyclesCard

/-- THE TIED CARD OF 'dormouselaw09.HeapOver'. -/
def heapOverCard : Claim7 := { stood := { row := heapOverRow, standIns := [], harness := (true, "55299c84c474e671852f1972392dd9ec8c98abd325514466e640b5d76de7bb02"), looks := true }, kinds := [], alts := [], laidByText := true, laidKinds := [.data, .data, .data, .sentinel, .sentinel], laidTests := true, laidLooks := .later }
def HeapOverCardSaid : Prop := Claim7.holds Tryz.pinned (.plain (OpenSpec.ofChange heapOverSpec)) heapOverCard

/-- THE TIED CARD OF 'dormouselaw09.HeapFinals'. -/
def heapFinalsCard : Claim7 := { stood := { row := heapFinalsRow, standIns := [], harness := (true, "55299c84c474e671852f1972392dd9ec8c98abd325514466e640b5d76de7bb02"), looks := true }, kinds := [], alts := [], laidByText := true, laidKinds := [.data, .data, .data, .sentinel, .sentinel], laidTests := true, laidLooks := .later }
def HeapFinalsCardSaid : Prop := Claim7.holds Tryz.pinned (.plain (OpenSpec.ofChange heapFinalsSpec)) heapFinalsCard

/-- THE TIED CARD OF 'dormouselaw11.ViewTells'. -/
def viewTellsCard : Claim7 := { stood := { row := viewTellsRow, standIns := [], harness := (true, "55299c84c474e671852f1972392dd9ec8c98abd325514466e640b5d76de7bb02"), looks := true }, kinds := [], alts := [], laidByText := true, laidKinds := [.data, .data, .data], laidTests := true, laidLooks := .later }
def ViewTellsCardSaid : Prop := Claim7.holds Tryz.pinned (.plain (OpenSpec.ofChange viewTellsSpec)) viewTellsCard

/-- THE TIED CARD OF 'dormouselaw11.ViewBack'. -/
def viewBackCard : Claim7 := { stood := { row := viewBackRow, standIns := [], harness := (true, "55299c84c474e671852f1972392dd9ec8c98abd325514466e640b5d76de7bb02"), looks := true }, kinds := [], alts := [], laidByText := true, laidKinds := [.data, .data, .data], laidTests := true, laidLooks := .later }
def ViewBackCardSaid : Prop := Claim7.holds Tryz.pinned (.plain (OpenSpec.ofChange viewBackSpec)) viewBackCard

/-- THE TIED CARD OF 'dormouselaw11.ViewKinds'. -/
def viewKindsCard : Claim7 := { stood := { row := viewKindsRow, standIns := [], harness := (true, "55299c84c474e671852f1972392dd9ec8c98abd325514466e640b5d76de7bb02"), looks := true }, kinds := [], alts := [], laidByText := true, laidKinds := [.data, .data, .data], laidTests := true, laidLooks := .later }
def ViewKindsCardSaid : Prop := Claim7.holds Tryz.pinned (.plain (OpenSpec.ofChange viewKindsSpec)) viewKindsCard

/-- THE TIED CARD OF 'dormouselaw11.ViewWords'. -/
def viewWordsCard : Claim7 := { stood := { row := viewWordsRow, standIns := [], harness := (true, "55299c84c474e671852f1972392dd9ec8c98abd325514466e640b5d76de7bb02"), looks := true }, kinds := [], alts := [], laidByText := true, laidKinds := [.data, .data, .data], laidTests := true, laidLooks := .later }
def ViewWordsCardSaid : Prop := Claim7.holds Tryz.pinned (.plain (OpenSpec.ofChange viewWordsSpec)) viewWordsCard

/-- THE TIED CARD OF 'dormouselaw12.RingPlays'. -/
def ringPlaysCard : Claim7 := { stood := { row := ringPlaysRow, standIns := [], harness := (true, "55299c84c474e671852f1972392dd9ec8c98abd325514466e640b5d76de7bb02"), looks := true }, kinds := [], alts := [], laidByText := true, laidKinds := [.data, .data, .data, .sentinel, .sentinel], laidTests := true, laidLooks := .later }
def RingPlaysCardSaid : Prop := Claim7.holds Tryz.pinned (.plain (OpenSpec.ofChange ringPlaysSpec)) ringPlaysCard

/-- THE TIED CARD OF 'dormouselaw12.RingTurns'. -/
def ringTurnsCard : Claim7 := { stood := { row := ringTurnsRow, standIns := [], harness := (true, "55299c84c474e671852f1972392dd9ec8c98abd325514466e640b5d76de7bb02"), looks := true }, kinds := [], alts := [], laidByText := true, laidKinds := [.data, .data, .data], laidTests := true, laidLooks := .later }
def RingTurnsCardSaid : Prop := Claim7.holds Tryz.pinned (.plain (OpenSpec.ofChange ringTurnsSpec)) ringTurnsCard

/-- THE TIED CARD OF 'dormouselaw12.RingRefuses'. -/
def ringRefusesCard : Claim7 := { stood := { row := ringRefusesRow, standIns := [], harness := (true, "55299c84c474e671852f1972392dd9ec8c98abd325514466e640b5d76de7bb02"), looks := true }, kinds := [], alts := [], laidByText := true, laidKinds := [.data, .data, .data], laidTests := true, laidLooks := .later }
def RingRefusesCardSaid : Prop := Claim7.holds Tryz.pinned (.plain (OpenSpec.ofChange ringRefusesSpec)) ringRefusesCard

/-- THE TIED CARD OF 'dormouselaw12.RingEmpty'. -/
def ringEmptyCard : Claim7 := { stood := { row := ringEmptyRow, standIns := [], harness := (true, "55299c84c474e671852f1972392dd9ec8c98abd325514466e640b5d76de7bb02"), looks := true }, kinds := [], alts := [], laidByText := true, laidKinds := [.data, .data, .data], laidTests := true, laidLooks := .later }
def RingEmptyCardSaid : Prop := Claim7.holds Tryz.pinned (.plain (OpenSpec.ofChange ringEmptySpec)) ringEmptyCard

/-- THE TIED CARD OF 'dormouselaw12.RingApart'. -/
def ringApartCard : Claim7 := { stood := { row := ringApartRow, standIns := [], harness := (true, "55299c84c474e671852f1972392dd9ec8c98abd325514466e640b5d76de7bb02"), looks := true }, kinds := [], alts := [], laidByText := true, laidKinds := [.data, .data, .data], laidTests := true, laidLooks := .later }
def RingApartCardSaid : Prop := Claim7.holds Tryz.pinned (.plain (OpenSpec.ofChange ringApartSpec)) ringApartCard

/-- THE SECOND FORM's CARD OF 'dormouselaw09.HeapCycles'. -/
def heapCyclesUptoCard : Claim7 := { stood := { row := heapCyclesUptoRow, standIns := [], harness := (true, "55299c84c474e671852f1972392dd9ec8c98abd325514466e640b5d76de7bb02"), looks := true }, kinds := [], alts := [], laidByText := true, laidKinds := [.data, .data, .data, .sentinel, .sentinel], laidTests := true, laidLooks := .later }
def HeapCyclesUptoCardSaid : Prop := Claim7.holds Tryz.pinned (.plain (OpenSpec.upto heapCyclesSpec)) heapCyclesUptoCard

/-- THE SECOND FORM's CARD OF 'dormouselaw09.HeapOver'. -/
def heapOverUptoCard : Claim7 := { stood := { row := heapOverUptoRow, standIns := [], harness := (true, "55299c84c474e671852f1972392dd9ec8c98abd325514466e640b5d76de7bb02"), looks := true }, kinds := [], alts := [], laidByText := true, laidKinds := [.data, .data, .data, .sentinel, .sentinel], laidTests := true, laidLooks := .later }
def HeapOverUptoCardSaid : Prop := Claim7.holds Tryz.pinned (.plain (OpenSpec.upto heapOverSpec)) heapOverUptoCard

/-- THE SECOND FORM's CARD OF 'dormouselaw09.HeapFinals'. -/
def heapFinalsUptoCard : Claim7 := { stood := { row := heapFinalsUptoRow, standIns := [], harness := (true, "55299c84c474e671852f1972392dd9ec8c98abd325514466e640b5d76de7bb02"), looks := true }, kinds := [], alts := [], laidByText := true, laidKinds := [.data, .data, .data, .sentinel, .sentinel], laidTests := true, laidLooks := .later }
def HeapFinalsUptoCardSaid : Prop := Claim7.holds Tryz.pinned (.plain (OpenSpec.upto heapFinalsSpec)) heapFinalsUptoCard

/-- THE SECOND FORM's CARD OF 'dormouselaw11.ViewTells'. -/
def viewTellsUptoCard : Claim7 := { stood := { row := viewTellsUptoRow, standIns := [], harness := (true, "55299c84c474e671852f1972392dd9ec8c98abd325514466e640b5d76de7bb02"), looks := true }, kinds := [], alts := [], laidByText := true, laidKinds := [.data, .data, .data], laidTests := true, laidLooks := .later }
def ViewTellsUptoCardSaid : Prop := Claim7.holds Tryz.pinned (.plain (OpenSpec.upto viewTellsSpec)) viewTellsUptoCard

/-- THE SECOND FORM's CARD OF 'dormouselaw11.ViewBack'. -/
def viewBackUptoCard : Claim7 := { stood := { row := viewBackUptoRow, standIns := [], harness := (true, "55299c84c474e671852f1972392dd9ec8c98abd325514466e640b5d76de7bb02"), looks := true }, kinds := [], alts := [], laidByText := true, laidKinds := [.data, .data, .data], laidTests := true, laidLooks := .later }
def ViewBackUptoCardSaid : Prop := Claim7.holds Tryz.pinned (.plain (OpenSpec.upto viewBackSpec)) viewBackUptoCard

/-- THE SECOND FORM's CARD OF 'dormouselaw11.ViewKinds'. -/
def viewKindsUptoCard : Claim7 := { stood := { row := viewKindsUptoRow, standIns := [], harness := (true, "55299c84c474e671852f1972392dd9ec8c98abd325514466e640b5d76de7bb02"), looks := true }, kinds := [], alts := [], laidByText := true, laidKinds := [.data, .data, .data], laidTests := true, laidLooks := .later }
def ViewKindsUptoCardSaid : Prop := Claim7.holds Tryz.pinned (.plain (OpenSpec.upto viewKindsSpec)) viewKindsUptoCard

/-- THE SECOND FORM's CARD OF 'dormouselaw11.ViewWords'. -/
def viewWordsUptoCard : Claim7 := { stood := { row := viewWordsUptoRow, standIns := [], harness := (true, "55299c84c474e671852f1972392dd9ec8c98abd325514466e640b5d76de7bb02"), looks := true }, kinds := [], alts := [], laidByText := true, laidKinds := [.data, .data, .data], laidTests := true, laidLooks := .later }
def ViewWordsUptoCardSaid : Prop := Claim7.holds Tryz.pinned (.plain (OpenSpec.upto viewWordsSpec)) viewWordsUptoCard

/-- THE SECOND FORM's CARD OF 'dormouselaw12.RingPlays'. -/
def ringPlaysUptoCard : Claim7 := { stood := { row := ringPlaysUptoRow, standIns := [], harness := (true, "55299c84c474e671852f1972392dd9ec8c98abd325514466e640b5d76de7bb02"), looks := true }, kinds := [], alts := [], laidByText := true, laidKinds := [.data, .data, .data, .sentinel, .sentinel], laidTests := true, laidLooks := .later }
def RingPlaysUptoCardSaid : Prop := Claim7.holds Tryz.pinned (.plain (OpenSpec.upto ringPlaysSpec)) ringPlaysUptoCard

/-- THE SECOND FORM's CARD OF 'dormouselaw12.RingTurns'. -/
def ringTurnsUptoCard : Claim7 := { stood := { row := ringTurnsUptoRow, standIns := [], harness := (true, "55299c84c474e671852f1972392dd9ec8c98abd325514466e640b5d76de7bb02"), looks := true }, kinds := [], alts := [], laidByText := true, laidKinds := [.data, .data, .data], laidTests := true, laidLooks := .later }
def RingTurnsUptoCardSaid : Prop := Claim7.holds Tryz.pinned (.plain (OpenSpec.upto ringTurnsSpec)) ringTurnsUptoCard

/-- THE SECOND FORM's CARD OF 'dormouselaw12.RingRefuses'. -/
def ringRefusesUptoCard : Claim7 := { stood := { row := ringRefusesUptoRow, standIns := [], harness := (true, "55299c84c474e671852f1972392dd9ec8c98abd325514466e640b5d76de7bb02"), looks := true }, kinds := [], alts := [], laidByText := true, laidKinds := [.data, .data, .data], laidTests := true, laidLooks := .later }
def RingRefusesUptoCardSaid : Prop := Claim7.holds Tryz.pinned (.plain (OpenSpec.upto ringRefusesSpec)) ringRefusesUptoCard

/-- THE SECOND FORM's CARD OF 'dormouselaw12.RingEmpty'. -/
def ringEmptyUptoCard : Claim7 := { stood := { row := ringEmptyUptoRow, standIns := [], harness := (true, "55299c84c474e671852f1972392dd9ec8c98abd325514466e640b5d76de7bb02"), looks := true }, kinds := [], alts := [], laidByText := true, laidKinds := [.data, .data, .data], laidTests := true, laidLooks := .later }
def RingEmptyUptoCardSaid : Prop := Claim7.holds Tryz.pinned (.plain (OpenSpec.upto ringEmptySpec)) ringEmptyUptoCard

/-- THE SECOND FORM's CARD OF 'dormouselaw12.RingApart'. -/
def ringApartUptoCard : Claim7 := { stood := { row := ringApartUptoRow, standIns := [], harness := (true, "55299c84c474e671852f1972392dd9ec8c98abd325514466e640b5d76de7bb02"), looks := true }, kinds := [], alts := [], laidByText := true, laidKinds := [.data, .data, .data], laidTests := true, laidLooks := .later }
def RingApartUptoCardSaid : Prop := Claim7.holds Tryz.pinned (.plain (OpenSpec.upto ringApartSpec)) ringApartUptoCard
end Rows
end Go.Proofs.YtolamdalijjlnaaGreatDoor
