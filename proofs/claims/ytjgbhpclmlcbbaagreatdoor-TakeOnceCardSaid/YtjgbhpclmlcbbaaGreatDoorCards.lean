/-
  DERIVED. GIVEN WITH THE SEED: THE CARDS: each row of YtjgbhpclmlcbbaaGreatDoorRows.lean that lists a variable, with what it lists TIED to the program's text (the seventh form; the later family's looks); each row that meets fmt, with fmt's text TOLD by the authors' own Lean function (tested against real Go, not proved from fmt's source: count such statements apart). THE CARD IS WHAT COUNTS. Prove the row's statement (the work); the ties are given (YtjgbhpclmlcbbaaGreatDoorTie.lean); close each card by the builder's one call (the guide's Derived/Test/ToyasCard.lean, 'card_holds'). Laid BY PROGRAM, IN A SANDBOX (cutbox-door.mjs). By AI agents, Wed Nov 11 2026. No macro, syntax, notation, axiom, sorry.
-/
import Derived.Test.YtjgbhpclmlcbbaaGreatDoorRows
import GoSem.ClaimSeven
namespace Go.Proofs.YtjgbhpclmlcbbaaGreatDoor
namespace Rows

/-- THE TIED CARD OF 'dormouselaw13.ListEnds'. -/
def listEndsCard : Claim7 := { stood := { row := listEndsRow, standIns := [], harness := (true, "aeb12c1a9d5d107341e6560e187d04858794b90c855212cb3dcf85059b21008c"), looks := true }, kinds := [], alts := [], laidByText := true, laidKinds := [.data, .data, .data], laidTests := true, laidLooks := .later }
def ListEndsCardSaid : Prop := Claim7.holds Tryz.pinned (.plain (OpenSpec.ofChange listEndsSpec)) listEndsCard

/-- THE TIED CARD OF 'dormouselaw14.WakeParks'. -/
def wakeParksCard : Claim7 := { stood := { row := wakeParksRow, standIns := [], harness := (true, "aeb12c1a9d5d107341e6560e187d04858794b90c855212cb3dcf85059b21008c"), looks := true }, kinds := [], alts := [], laidByText := true, laidKinds := [.data, .data, .data], laidTests := true, laidLooks := .later }
def WakeParksCardSaid : Prop := Claim7.holds Tryz.pinned (.plain (OpenSpec.ofChange wakeParksSpec)) wakeParksCard

/-- THE TIED CARD OF 'dormouselaw15.SendOnce'. -/
def sendOnceCard : Claim7 := { stood := { row := sendOnceRow, standIns := [], harness := (true, "aeb12c1a9d5d107341e6560e187d04858794b90c855212cb3dcf85059b21008c"), looks := true }, kinds := [], alts := [], laidByText := true, laidKinds := [.data, .data, .data], laidTests := true, laidLooks := .later }
def SendOnceCardSaid : Prop := Claim7.holds Tryz.pinned (.plain (OpenSpec.ofChange sendOnceSpec)) sendOnceCard

/-- THE TIED CARD OF 'dormouselaw15.SendFirst'. -/
def sendFirstCard : Claim7 := { stood := { row := sendFirstRow, standIns := [], harness := (true, "aeb12c1a9d5d107341e6560e187d04858794b90c855212cb3dcf85059b21008c"), looks := true }, kinds := [], alts := [], laidByText := true, laidKinds := [.data, .data, .data], laidTests := true, laidLooks := .later }
def SendFirstCardSaid : Prop := Claim7.holds Tryz.pinned (.plain (OpenSpec.ofChange sendFirstSpec)) sendFirstCard

/-- THE TIED CARD OF 'dormouselaw16.TakeOnce'. -/
def takeOnceCard : Claim7 := { stood := { row := takeOnceRow, standIns := [], harness := (true, "aeb12c1a9d5d107341e6560e187d04858794b90c855212cb3dcf85059b21008c"), looks := true }, kinds := [], alts := [], laidByText := true, laidKinds := [.data, .data, .data], laidTests := true, laidLooks := .later }
def TakeOnceCardSaid : Prop := Claim7.holds Tryz.pinned (.plain (OpenSpec.ofChange takeOnceSpec)) takeOnceCard

/-- THE TIED CARD OF 'dormouselaw16.TakeMoves'. -/
def takeMovesCard : Claim7 := { stood := { row := takeMovesRow, standIns := [], harness := (true, "aeb12c1a9d5d107341e6560e187d04858794b90c855212cb3dcf85059b21008c"), looks := true }, kinds := [], alts := [], laidByText := true, laidKinds := [.data, .data, .data], laidTests := true, laidLooks := .later }
def TakeMovesCardSaid : Prop := Claim7.holds Tryz.pinned (.plain (OpenSpec.ofChange takeMovesSpec)) takeMovesCard

/-- THE TIED CARD OF 'dormouselaw16.TakeFirst'. -/
def takeFirstCard : Claim7 := { stood := { row := takeFirstRow, standIns := [], harness := (true, "aeb12c1a9d5d107341e6560e187d04858794b90c855212cb3dcf85059b21008c"), looks := true }, kinds := [], alts := [], laidByText := true, laidKinds := [.data, .data, .data], laidTests := true, laidLooks := .later }
def TakeFirstCardSaid : Prop := Claim7.holds Tryz.pinned (.plain (OpenSpec.ofChange takeFirstSpec)) takeFirstCard

/-- THE TIED CARD OF 'dormouselaw17.ShutNone'. -/
def shutNoneCard : Claim7 := { stood := { row := shutNoneRow, standIns := [], harness := (true, "aeb12c1a9d5d107341e6560e187d04858794b90c855212cb3dcf85059b21008c"), looks := true }, kinds := [], alts := [], laidByText := true, laidKinds := [.data, .data, .data], laidTests := true, laidLooks := .later }
def ShutNoneCardSaid : Prop := Claim7.holds Tryz.pinned (.plain (OpenSpec.ofChange shutNoneSpec)) shutNoneCard

/-- THE TIED CARD OF 'dormouselaw17.ShutHolds'. -/
def shutHoldsCard : Claim7 := { stood := { row := shutHoldsRow, standIns := [], harness := (true, "aeb12c1a9d5d107341e6560e187d04858794b90c855212cb3dcf85059b21008c"), looks := true }, kinds := [], alts := [], laidByText := true, laidKinds := [.data, .data, .data], laidTests := true, laidLooks := .later }
def ShutHoldsCardSaid : Prop := Claim7.holds Tryz.pinned (.plain (OpenSpec.ofChange shutHoldsSpec)) shutHoldsCard

/-- THE SECOND FORM's CARD OF 'dormouselaw13.ListEnds'. -/
def listEndsUptoCard : Claim7 := { stood := { row := listEndsUptoRow, standIns := [], harness := (true, "aeb12c1a9d5d107341e6560e187d04858794b90c855212cb3dcf85059b21008c"), looks := true }, kinds := [], alts := [], laidByText := true, laidKinds := [.data, .data, .data], laidTests := true, laidLooks := .later }
def ListEndsUptoCardSaid : Prop := Claim7.holds Tryz.pinned (.plain (OpenSpec.upto listEndsSpec)) listEndsUptoCard

/-- THE SECOND FORM's CARD OF 'dormouselaw14.WakeParks'. -/
def wakeParksUptoCard : Claim7 := { stood := { row := wakeParksUptoRow, standIns := [], harness := (true, "aeb12c1a9d5d107341e6560e187d04858794b90c855212cb3dcf85059b21008c"), looks := true }, kinds := [], alts := [], laidByText := true, laidKinds := [.data, .data, .data], laidTests := true, laidLooks := .later }
def WakeParksUptoCardSaid : Prop := Claim7.holds Tryz.pinned (.plain (OpenSpec.upto wakeParksSpec)) wakeParksUptoCard

/-- THE SECOND FORM's CARD OF 'dormouselaw15.SendOnce'. -/
def sendOnceUptoCard : Claim7 := { stood := { row := sendOnceUptoRow, standIns := [], harness := (true, "aeb12c1a9d5d107341e6560e187d04858794b90c855212cb3dcf85059b21008c"), looks := true }, kinds := [], alts := [], laidByText := true, laidKinds := [.data, .data, .data], laidTests := true, laidLooks := .later }
def SendOnceUptoCardSaid : Prop := Claim7.holds Tryz.pinned (.plain (OpenSpec.upto sendOnceSpec)) sendOnceUptoCard

/-- THE SECOND FORM's CARD OF 'dormouselaw15.SendFirst'. -/
def sendFirstUptoCard : Claim7 := { stood := { row := sendFirstUptoRow, standIns := [], harness := (true, "aeb12c1a9d5d107341e6560e187d04858794b90c855212cb3dcf85059b21008c"), looks := true }, kinds := [], alts := [], laidByText := true, laidKinds := [.data, .data, .data], laidTests := true, laidLooks := .later }
def SendFirstUptoCardSaid : Prop := Claim7.holds Tryz.pinned (.plain (OpenSpec.upto sendFirstSpec)) sendFirstUptoCard

/-- THE SECOND FORM's CARD OF 'dormouselaw16.TakeOnce'. -/
def takeOnceUptoCard : Claim7 := { stood := { row := takeOnceUptoRow, standIns := [], harness := (true, "aeb12c1a9d5d107341e6560e187d04858794b90c855212cb3dcf85059b21008c"), looks := true }, kinds := [], alts := [], laidByText := true, laidKinds := [.data, .data, .data], laidTests := true, laidLooks := .later }
def TakeOnceUptoCardSaid : Prop := Claim7.holds Tryz.pinned (.plain (OpenSpec.upto takeOnceSpec)) takeOnceUptoCard

/-- THE SECOND FORM's CARD OF 'dormouselaw16.TakeMoves'. -/
def takeMovesUptoCard : Claim7 := { stood := { row := takeMovesUptoRow, standIns := [], harness := (true, "aeb12c1a9d5d107341e6560e187d04858794b90c855212cb3dcf85059b21008c"), looks := true }, kinds := [], alts := [], laidByText := true, laidKinds := [.data, .data, .data], laidTests := true, laidLooks := .later }
def TakeMovesUptoCardSaid : Prop := Claim7.holds Tryz.pinned (.plain (OpenSpec.upto takeMovesSpec)) takeMovesUptoCard

/-- THE SECOND FORM's CARD OF 'dormouselaw16.TakeFirst'. -/
def takeFirstUptoCard : Claim7 := { stood := { row := takeFirstUptoRow, standIns := [], harness := (true, "aeb12c1a9d5d107341e6560e187d04858794b90c855212cb3dcf85059b21008c"), looks := true }, kinds := [], alts := [], laidByText := true, laidKinds := [.data, .data, .data], laidTests := true, laidLooks := .later }
def TakeFirstUptoCardSaid : Prop := Claim7.holds Tryz.pinned (.plain (OpenSpec.upto takeFirstSpec)) takeFirstUptoCard

/-- THE SECOND FORM's CARD OF 'dormouselaw17.ShutNone'. -/
def shutNoneUptoCard : Claim7 := { stood := { row := shutNoneUptoRow, standIns := [], harness := (true, "aeb12c1a9d5d107341e6560e187d04858794b90c855212cb3dcf85059b21008c"), looks := true }, kinds := [], alts := [], laidByText := true, laidKinds := [.data, .data, .data], laidTests := true, laidLooks := .later }
def ShutNoneUptoCardSaid : Prop := Claim7.holds Tryz.pinned (.plain (OpenSpec.upto shutNoneSpec)) shutNoneUptoCard

/-- THE SECOND FORM's CARD OF 'dormouselaw17.ShutHolds'. -/
def shutHoldsUptoCard : Claim7 := { stood := { row := shutHoldsUptoRow, standIns := [], harness := (true, "aeb12c1a9d5d107341e6560e187d04858794b90c855212cb3dcf85059b21008c"), looks := true }, kinds := [], alts := [], laidByText := true, laidKinds := [.data, .data, .data], laidTests := true, laidLooks := .later }
def ShutHoldsUptoCardSaid : Prop := Claim7.holds Tryz.pinned (.plain (OpenSpec.upto shutHoldsSpec)) shutHoldsUptoCard
end Rows
end Go.Proofs.YtjgbhpclmlcbbaaGreatDoor
