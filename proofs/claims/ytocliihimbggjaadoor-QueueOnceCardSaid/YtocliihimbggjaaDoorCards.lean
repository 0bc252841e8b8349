/-
  DERIVED. GIVEN WITH THE SEED: THE CARDS: each row of YtocliihimbggjaaDoorRows.lean that lists a variable, with what it lists TIED to the program's text (the seventh form; the later family's looks); each row that meets fmt, with fmt's text TOLD by the authors' own Lean function (tested against real Go, not proved from fmt's source: count such statements apart). THE CARD IS WHAT COUNTS. Prove the row's statement (the work); the ties are given (YtocliihimbggjaaDoorTie.lean); close each card by the builder's one call (the guide's Derived/Test/ToyasCard.lean, 'card_holds'). Laid BY PROGRAM, IN A SANDBOX (cutbox-door.mjs). By AI agents, Wed Nov 11 2026. No macro, syntax, notation, axiom, sorry.
-/
import Derived.Test.YtocliihimbggjaaDoorRows
import GoSem.ClaimSeven
namespace Go.Proofs.YtocliihimbggjaaDoor
namespace Rows

/-- THE TIED CARD OF 'dormouselaw08.GreyPlays'. -/
def greyPlaysCard : Claim7 := { stood := { row := greyPlaysRow, standIns := [], harness := (true, "e91a138aee7d0b29a5d16304eacd815979034fca947fdae372e9201efc2e1d01"), looks := true }, kinds := [], alts := [], laidByText := true, laidKinds := [.data, .data, .data, .sentinel, .sentinel], laidTests := true, laidLooks := .later }
def GreyPlaysCardSaid : Prop := Claim7.holds Tryd.pinned (.plain (OpenSpec.ofChange greyPlaysSpec)) greyPlaysCard

/-- THE TIED CARD OF 'dormouselaw08.GreyTurns'. -/
def greyTurnsCard : Claim7 := { stood := { row := greyTurnsRow, standIns := [], harness := (true, "e91a138aee7d0b29a5d16304eacd815979034fca947fdae372e9201efc2e1d01"), looks := true }, kinds := [], alts := [], laidByText := true, laidKinds := [.data, .data, .data, .sentinel, .sentinel], laidTests := true, laidLooks := .later }
def GreyTurnsCardSaid : Prop := Claim7.holds Tryd.pinned (.plain (OpenSpec.ofChange greyTurnsSpec)) greyTurnsCard

/-- THE TIED CARD OF 'dormouselaw08.GreyOver'. -/
def greyOverCard : Claim7 := { stood := { row := greyOverRow, standIns := [], harness := (true, "e91a138aee7d0b29a5d16304eacd815979034fca947fdae372e9201efc2e1d01"), looks := true }, kinds := [], alts := [], laidByText := true, laidKinds := [.data, .data, .data, .sentinel, .sentinel], laidTests := true, laidLooks := .later }
def GreyOverCardSaid : Prop := Claim7.holds Tryd.pinned (.plain (OpenSpec.ofChange greyOverSpec)) greyOverCard

/-- THE TIED CARD OF 'dormouselaw20.QueuePlays'. -/
def queuePlaysCard : Claim7 := { stood := { row := queuePlaysRow, standIns := [], harness := (true, "e91a138aee7d0b29a5d16304eacd815979034fca947fdae372e9201efc2e1d01"), looks := true }, kinds := [], alts := [], laidByText := true, laidKinds := [.data, .data, .data, .sentinel, .sentinel], laidTests := true, laidLooks := .later }
def QueuePlaysCardSaid : Prop := Claim7.holds Tryd.pinned (.plain (OpenSpec.ofChange queuePlaysSpec)) queuePlaysCard

/-- THE TIED CARD OF 'dormouselaw20.QueueOnce'. -/
def queueOnceCard : Claim7 := { stood := { row := queueOnceRow, standIns := [], harness := (true, "e91a138aee7d0b29a5d16304eacd815979034fca947fdae372e9201efc2e1d01"), looks := true }, kinds := [], alts := [], laidByText := true, laidKinds := [.data, .data, .data, .sentinel, .sentinel], laidTests := true, laidLooks := .later }
def QueueOnceCardSaid : Prop := Claim7.holds Tryd.pinned (.plain (OpenSpec.ofChange queueOnceSpec)) queueOnceCard

/-- THE TIED CARD OF 'dormouselaw20.QueueRound'. -/
def queueRoundCard : Claim7 := { stood := { row := queueRoundRow, standIns := [], harness := (true, "e91a138aee7d0b29a5d16304eacd815979034fca947fdae372e9201efc2e1d01"), looks := true }, kinds := [], alts := [], laidByText := true, laidKinds := [.data, .data, .data, .sentinel, .sentinel], laidTests := true, laidLooks := .later }
def QueueRoundCardSaid : Prop := Claim7.holds Tryd.pinned (.plain (OpenSpec.ofChange queueRoundSpec)) queueRoundCard

/-- THE SECOND FORM's CARD OF 'dormouselaw08.GreyPlays'. -/
def greyPlaysUptoCard : Claim7 := { stood := { row := greyPlaysUptoRow, standIns := [], harness := (true, "e91a138aee7d0b29a5d16304eacd815979034fca947fdae372e9201efc2e1d01"), looks := true }, kinds := [], alts := [], laidByText := true, laidKinds := [.data, .data, .data, .sentinel, .sentinel], laidTests := true, laidLooks := .later }
def GreyPlaysUptoCardSaid : Prop := Claim7.holds Tryd.pinned (.plain (OpenSpec.upto greyPlaysSpec)) greyPlaysUptoCard

/-- THE SECOND FORM's CARD OF 'dormouselaw08.GreyTurns'. -/
def greyTurnsUptoCard : Claim7 := { stood := { row := greyTurnsUptoRow, standIns := [], harness := (true, "e91a138aee7d0b29a5d16304eacd815979034fca947fdae372e9201efc2e1d01"), looks := true }, kinds := [], alts := [], laidByText := true, laidKinds := [.data, .data, .data, .sentinel, .sentinel], laidTests := true, laidLooks := .later }
def GreyTurnsUptoCardSaid : Prop := Claim7.holds Tryd.pinned (.plain (OpenSpec.upto greyTurnsSpec)) greyTurnsUptoCard

/-- THE SECOND FORM's CARD OF 'dormouselaw08.GreyOver'. -/
def greyOverUptoCard : Claim7 := { stood := { row := greyOverUptoRow, standIns := [], harness := (true, "e91a138aee7d0b29a5d16304eacd815979034fca947fdae372e9201efc2e1d01"), looks := true }, kinds := [], alts := [], laidByText := true, laidKinds := [.data, .data, .data, .sentinel, .sentinel], laidTests := true, laidLooks := .later }
def GreyOverUptoCardSaid : Prop := Claim7.holds Tryd.pinned (.plain (OpenSpec.upto greyOverSpec)) greyOverUptoCard

/-- THE SECOND FORM's CARD OF 'dormouselaw20.QueuePlays'. -/
def queuePlaysUptoCard : Claim7 := { stood := { row := queuePlaysUptoRow, standIns := [], harness := (true, "e91a138aee7d0b29a5d16304eacd815979034fca947fdae372e9201efc2e1d01"), looks := true }, kinds := [], alts := [], laidByText := true, laidKinds := [.data, .data, .data, .sentinel, .sentinel], laidTests := true, laidLooks := .later }
def QueuePlaysUptoCardSaid : Prop := Claim7.holds Tryd.pinned (.plain (OpenSpec.upto queuePlaysSpec)) queuePlaysUptoCard

/-- THE SECOND FORM's CARD OF 'dormouselaw20.QueueOnce'. -/
def queueOnceUptoCard : Claim7 := { stood := { row := queueOnceUptoRow, standIns := [], harness := (true, "e91a138aee7d0b29a5d16304eacd815979034fca947fdae372e9201efc2e1d01"), looks := true }, kinds := [], alts := [], laidByText := true, laidKinds := [.data, .data, .data, .sentinel, .sentinel], laidTests := true, laidLooks := .later }
def QueueOnceUptoCardSaid : Prop := Claim7.holds Tryd.pinned (.plain (OpenSpec.upto queueOnceSpec)) queueOnceUptoCard

/-- THE SECOND FORM's CARD OF 'dormouselaw20.QueueRound'. -/
def queueRoundUptoCard : Claim7 := { stood := { row := queueRoundUptoRow, standIns := [], harness := (true, "e91a138aee7d0b29a5d16304eacd815979034fca947fdae372e9201efc2e1d01"), looks := true }, kinds := [], alts := [], laidByText := true, laidKinds := [.data, .data, .data, .sentinel, .sentinel], laidTests := true, laidLooks := .later }
def QueueRoundUptoCardSaid : Prop := Claim7.holds Tryd.pinned (.plain (OpenSpec.upto queueRoundSpec)) queueRoundUptoCard
end Rows
end Go.Proofs.YtocliihimbggjaaDoor
