/-
  DERIVED. GIVEN WITH THE SEED: THE CARDS: each row of YtmcljlflcbdpiaaGreatDoorRows.lean that lists a variable, with what it lists TIED to the program's text (the seventh form; the later family's looks); each row that meets fmt, with fmt's text TOLD by the authors' own Lean function (tested against real Go, not proved from fmt's source: count such statements apart). THE CARD IS WHAT COUNTS. Prove the row's statement (the work); the ties are given (YtmcljlflcbdpiaaGreatDoorTie.lean); close each card by the builder's one call (the guide's Derived/Test/ToyasCard.lean, 'card_holds'). Laid BY PROGRAM, IN A SANDBOX (cutbox-door.mjs). By AI agents, Wed Nov 11 2026. No macro, syntax, notation, axiom, sorry.
-/
import Derived.Test.YtmcljlflcbdpiaaGreatDoorRows
import GoSem.ClaimSeven
namespace Go.Proofs.YtmcljlflcbdpiaaGreatDoor
namespace Rows

/-- THE TIED CARD OF 'dormouselaw13.ListRefuses'. -/
def listRefusesCard : Claim7 := { stood := { row := listRefusesRow, standIns := [], harness := (true, "a21a85cd621aaa39d08b8e375ae26c572bacf64af59b5423dfe0b84bf9af5962"), looks := true }, kinds := [], alts := [], laidByText := true, laidKinds := [.data, .data, .data], laidTests := true, laidLooks := .later }
def ListRefusesCardSaid : Prop := Claim7.holds Tryz.pinned (.plain (OpenSpec.ofChange listRefusesSpec)) listRefusesCard

/-- THE TIED CARD OF 'dormouselaw13.ListEnds'. -/
def listEndsCard : Claim7 := { stood := { row := listEndsRow, standIns := [], harness := (true, "a21a85cd621aaa39d08b8e375ae26c572bacf64af59b5423dfe0b84bf9af5962"), looks := true }, kinds := [], alts := [], laidByText := true, laidKinds := [.data, .data, .data], laidTests := true, laidLooks := .later }
def ListEndsCardSaid : Prop := Claim7.holds Tryz.pinned (.plain (OpenSpec.ofChange listEndsSpec)) listEndsCard

/-- THE TIED CARD OF 'dormouselaw15.SendNone'. -/
def sendNoneCard : Claim7 := { stood := { row := sendNoneRow, standIns := [], harness := (true, "a21a85cd621aaa39d08b8e375ae26c572bacf64af59b5423dfe0b84bf9af5962"), looks := true }, kinds := [], alts := [], laidByText := true, laidKinds := [.data, .data, .data], laidTests := true, laidLooks := .later }
def SendNoneCardSaid : Prop := Claim7.holds Tryz.pinned (.plain (OpenSpec.ofChange sendNoneSpec)) sendNoneCard

/-- THE TIED CARD OF 'dormouselaw15.SendOnce'. -/
def sendOnceCard : Claim7 := { stood := { row := sendOnceRow, standIns := [], harness := (true, "a21a85cd621aaa39d08b8e375ae26c572bacf64af59b5423dfe0b84bf9af5962"), looks := true }, kinds := [], alts := [], laidByText := true, laidKinds := [.data, .data, .data], laidTests := true, laidLooks := .later }
def SendOnceCardSaid : Prop := Claim7.holds Tryz.pinned (.plain (OpenSpec.ofChange sendOnceSpec)) sendOnceCard

/-- THE TIED CARD OF 'dormouselaw16.TakeClosed'. -/
def takeClosedCard : Claim7 := { stood := { row := takeClosedRow, standIns := [], harness := (true, "a21a85cd621aaa39d08b8e375ae26c572bacf64af59b5423dfe0b84bf9af5962"), looks := true }, kinds := [], alts := [], laidByText := true, laidKinds := [.data, .data, .data], laidTests := true, laidLooks := .later }
def TakeClosedCardSaid : Prop := Claim7.holds Tryz.pinned (.plain (OpenSpec.ofChange takeClosedSpec)) takeClosedCard

/-- THE TIED CARD OF 'dormouselaw16.TakeOnce'. -/
def takeOnceCard : Claim7 := { stood := { row := takeOnceRow, standIns := [], harness := (true, "a21a85cd621aaa39d08b8e375ae26c572bacf64af59b5423dfe0b84bf9af5962"), looks := true }, kinds := [], alts := [], laidByText := true, laidKinds := [.data, .data, .data], laidTests := true, laidLooks := .later }
def TakeOnceCardSaid : Prop := Claim7.holds Tryz.pinned (.plain (OpenSpec.ofChange takeOnceSpec)) takeOnceCard

/-- THE SECOND FORM's CARD OF 'dormouselaw13.ListRefuses'. -/
def listRefusesUptoCard : Claim7 := { stood := { row := listRefusesUptoRow, standIns := [], harness := (true, "a21a85cd621aaa39d08b8e375ae26c572bacf64af59b5423dfe0b84bf9af5962"), looks := true }, kinds := [], alts := [], laidByText := true, laidKinds := [.data, .data, .data], laidTests := true, laidLooks := .later }
def ListRefusesUptoCardSaid : Prop := Claim7.holds Tryz.pinned (.plain (OpenSpec.upto listRefusesSpec)) listRefusesUptoCard

/-- THE SECOND FORM's CARD OF 'dormouselaw13.ListEnds'. -/
def listEndsUptoCard : Claim7 := { stood := { row := listEndsUptoRow, standIns := [], harness := (true, "a21a85cd621aaa39d08b8e375ae26c572bacf64af59b5423dfe0b84bf9af5962"), looks := true }, kinds := [], alts := [], laidByText := true, laidKinds := [.data, .data, .data], laidTests := true, laidLooks := .later }
def ListEndsUptoCardSaid : Prop := Claim7.holds Tryz.pinned (.plain (OpenSpec.upto listEndsSpec)) listEndsUptoCard

/-- THE SECOND FORM's CARD OF 'dormouselaw15.SendNone'. -/
def sendNoneUptoCard : Claim7 := { stood := { row := sendNoneUptoRow, standIns := [], harness := (true, "a21a85cd621aaa39d08b8e375ae26c572bacf64af59b5423dfe0b84bf9af5962"), looks := true }, kinds := [], alts := [], laidByText := true, laidKinds := [.data, .data, .data], laidTests := true, laidLooks := .later }
def SendNoneUptoCardSaid : Prop := Claim7.holds Tryz.pinned (.plain (OpenSpec.upto sendNoneSpec)) sendNoneUptoCard

/-- THE SECOND FORM's CARD OF 'dormouselaw15.SendOnce'. -/
def sendOnceUptoCard : Claim7 := { stood := { row := sendOnceUptoRow, standIns := [], harness := (true, "a21a85cd621aaa39d08b8e375ae26c572bacf64af59b5423dfe0b84bf9af5962"), looks := true }, kinds := [], alts := [], laidByText := true, laidKinds := [.data, .data, .data], laidTests := true, laidLooks := .later }
def SendOnceUptoCardSaid : Prop := Claim7.holds Tryz.pinned (.plain (OpenSpec.upto sendOnceSpec)) sendOnceUptoCard

/-- THE SECOND FORM's CARD OF 'dormouselaw16.TakeClosed'. -/
def takeClosedUptoCard : Claim7 := { stood := { row := takeClosedUptoRow, standIns := [], harness := (true, "a21a85cd621aaa39d08b8e375ae26c572bacf64af59b5423dfe0b84bf9af5962"), looks := true }, kinds := [], alts := [], laidByText := true, laidKinds := [.data, .data, .data], laidTests := true, laidLooks := .later }
def TakeClosedUptoCardSaid : Prop := Claim7.holds Tryz.pinned (.plain (OpenSpec.upto takeClosedSpec)) takeClosedUptoCard

/-- THE SECOND FORM's CARD OF 'dormouselaw16.TakeOnce'. -/
def takeOnceUptoCard : Claim7 := { stood := { row := takeOnceUptoRow, standIns := [], harness := (true, "a21a85cd621aaa39d08b8e375ae26c572bacf64af59b5423dfe0b84bf9af5962"), looks := true }, kinds := [], alts := [], laidByText := true, laidKinds := [.data, .data, .data], laidTests := true, laidLooks := .later }
def TakeOnceUptoCardSaid : Prop := Claim7.holds Tryz.pinned (.plain (OpenSpec.upto takeOnceSpec)) takeOnceUptoCard
end Rows
end Go.Proofs.YtmcljlflcbdpiaaGreatDoor
