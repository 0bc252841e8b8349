/-
  DERIVED. GIVEN WITH THE SEED: THE CARDS: each row of YtmckfhnijeiklaaGreatDoorRows.lean that lists a variable, with what it lists TIED to the program's text (the seventh form; the later family's looks); each row that meets fmt, with fmt's text TOLD by the authors' own Lean function (tested against real Go, not proved from fmt's source: count such statements apart). THE CARD IS WHAT COUNTS. Prove the row's statement (the work); the ties are given (YtmckfhnijeiklaaGreatDoorTie.lean); close each card by the builder's one call (the guide's Derived/Test/ToyasCard.lean, 'card_holds'). Laid BY PROGRAM, IN A SANDBOX (cutbox-door.mjs). By AI agents, Wed Nov 11 2026. No macro, syntax, notation, axiom, sorry.
-/
import Derived.Test.YtmckfhnijeiklaaGreatDoorRows
import GoSem.ClaimSeven
namespace Go.Proofs.YtmckfhnijeiklaaGreatDoor
namespace Rows

/-- THE TIED CARD OF 'dormouselaw09.HeapOver'. -/
def heapOverCard : Claim7 := { stood := { row := heapOverRow, standIns := [], harness := (true, "ec0100f5ddb1700eb2fc85da3116f18d126094ff96cc177000e7952357c76616"), looks := true }, kinds := [], alts := [], laidByText := true, laidKinds := [.data, .data, .data, .sentinel, .sentinel], laidTests := true, laidLooks := .later }
def HeapOverCardSaid : Prop := Claim7.holds Tryz.pinned (.plain (OpenSpec.ofChange heapOverSpec)) heapOverCard

/-- THE TIED CARD OF 'dormouselaw14.WakeRegs'. -/
def wakeRegsCard : Claim7 := { stood := { row := wakeRegsRow, standIns := [], harness := (true, "ec0100f5ddb1700eb2fc85da3116f18d126094ff96cc177000e7952357c76616"), looks := true }, kinds := [], alts := [], laidByText := true, laidKinds := [.data, .data, .data], laidTests := true, laidLooks := .later }
def WakeRegsCardSaid : Prop := Claim7.holds Tryz.pinned (.plain (OpenSpec.ofChange wakeRegsSpec)) wakeRegsCard

/-- THE SECOND FORM's CARD OF 'dormouselaw09.HeapOver'. -/
def heapOverUptoCard : Claim7 := { stood := { row := heapOverUptoRow, standIns := [], harness := (true, "ec0100f5ddb1700eb2fc85da3116f18d126094ff96cc177000e7952357c76616"), looks := true }, kinds := [], alts := [], laidByText := true, laidKinds := [.data, .data, .data, .sentinel, .sentinel], laidTests := true, laidLooks := .later }
def HeapOverUptoCardSaid : Prop := Claim7.holds Tryz.pinned (.plain (OpenSpec.upto heapOverSpec)) heapOverUptoCard

/-- THE SECOND FORM's CARD OF 'dormouselaw14.WakeRegs'. -/
def wakeRegsUptoCard : Claim7 := { stood := { row := wakeRegsUptoRow, standIns := [], harness := (true, "ec0100f5ddb1700eb2fc85da3116f18d126094ff96cc177000e7952357c76616"), looks := true }, kinds := [], alts := [], laidByText := true, laidKinds := [.data, .data, .data], laidTests := true, laidLooks := .later }
def WakeRegsUptoCardSaid : Prop := Claim7.holds Tryz.pinned (.plain (OpenSpec.upto wakeRegsSpec)) wakeRegsUptoCard
end Rows
end Go.Proofs.YtmckfhnijeiklaaGreatDoor
