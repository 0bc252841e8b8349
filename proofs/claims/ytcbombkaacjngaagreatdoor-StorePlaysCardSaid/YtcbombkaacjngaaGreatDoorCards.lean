/-
  DERIVED. GIVEN WITH THE SEED: THE CARDS: each row of YtcbombkaacjngaaGreatDoorRows.lean that lists a variable, with what it lists TIED to the program's text (the seventh form; the later family's looks); each row that meets fmt, with fmt's text TOLD by the authors' own Lean function (tested against real Go, not proved from fmt's source: count such statements apart). THE CARD IS WHAT COUNTS. Prove the row's statement (the work); the ties are given (YtcbombkaacjngaaGreatDoorTie.lean); close each card by the builder's one call (the guide's Derived/Test/ToyasCard.lean, 'card_holds'). Laid BY PROGRAM, IN A SANDBOX (cutbox-door.mjs). By AI agents, Wed Nov 11 2026. No macro, syntax, notation, axiom, sorry.
-/
import Derived.Test.YtcbombkaacjngaaGreatDoorRows
import GoSem.ClaimSeven
namespace Go.Proofs.YtcbombkaacjngaaGreatDoor
namespace Rows

/-- THE TIED CARD OF 'dormouselaw21.StorePlays'. -/
def storePlaysCard : Claim7 := { stood := { row := storePlaysRow, standIns := [], harness := (true, "eb8563946729284a146fecdfc048b11eb3680b54246bf59ade6ea3643f9cf15a"), looks := true }, kinds := [], alts := [], laidByText := true, laidKinds := [.data, .data, .data, .sentinel, .sentinel], laidTests := true, laidLooks := .later }
def StorePlaysCardSaid : Prop := Claim7.holds Tryz.pinned (.plain (OpenSpec.ofChange storePlaysSpec)) storePlaysCard

/-- THE TIED CARD OF 'dormouselaw17.ShutTells'. -/
def shutTellsCard : Claim7 := { stood := { row := shutTellsRow, standIns := [], harness := (true, "eb8563946729284a146fecdfc048b11eb3680b54246bf59ade6ea3643f9cf15a"), looks := true }, kinds := [], alts := [], laidByText := true, laidKinds := [.data, .data, .data, .sentinel, .sentinel], laidTests := true, laidLooks := .later }
def ShutTellsCardSaid : Prop := Claim7.holds Tryz.pinned (.plain (OpenSpec.ofChange shutTellsSpec)) shutTellsCard

/-- THE TIED CARD OF 'dormouselaw18.ChooseTells'. -/
def chooseTellsCard : Claim7 := { stood := { row := chooseTellsRow, standIns := [], harness := (true, "eb8563946729284a146fecdfc048b11eb3680b54246bf59ade6ea3643f9cf15a"), looks := true }, kinds := [], alts := [], laidByText := true, laidKinds := [.data, .data, .data], laidTests := true, laidLooks := .later }
def ChooseTellsCardSaid : Prop := Claim7.holds Tryz.pinned (.plain (OpenSpec.ofChange chooseTellsSpec)) chooseTellsCard

/-- THE TIED CARD OF 'dormouselaw18.ChooseRound'. -/
def chooseRoundCard : Claim7 := { stood := { row := chooseRoundRow, standIns := [], harness := (true, "eb8563946729284a146fecdfc048b11eb3680b54246bf59ade6ea3643f9cf15a"), looks := true }, kinds := [], alts := [], laidByText := true, laidKinds := [.data, .data, .data], laidTests := true, laidLooks := .later }
def ChooseRoundCardSaid : Prop := Claim7.holds Tryz.pinned (.plain (OpenSpec.ofChange chooseRoundSpec)) chooseRoundCard

/-- THE SECOND FORM's CARD OF 'dormouselaw21.StorePlays'. -/
def storePlaysUptoCard : Claim7 := { stood := { row := storePlaysUptoRow, standIns := [], harness := (true, "eb8563946729284a146fecdfc048b11eb3680b54246bf59ade6ea3643f9cf15a"), looks := true }, kinds := [], alts := [], laidByText := true, laidKinds := [.data, .data, .data, .sentinel, .sentinel], laidTests := true, laidLooks := .later }
def StorePlaysUptoCardSaid : Prop := Claim7.holds Tryz.pinned (.plain (OpenSpec.upto storePlaysSpec)) storePlaysUptoCard

/-- THE SECOND FORM's CARD OF 'dormouselaw17.ShutTells'. -/
def shutTellsUptoCard : Claim7 := { stood := { row := shutTellsUptoRow, standIns := [], harness := (true, "eb8563946729284a146fecdfc048b11eb3680b54246bf59ade6ea3643f9cf15a"), looks := true }, kinds := [], alts := [], laidByText := true, laidKinds := [.data, .data, .data, .sentinel, .sentinel], laidTests := true, laidLooks := .later }
def ShutTellsUptoCardSaid : Prop := Claim7.holds Tryz.pinned (.plain (OpenSpec.upto shutTellsSpec)) shutTellsUptoCard

/-- THE SECOND FORM's CARD OF 'dormouselaw18.ChooseTells'. -/
def chooseTellsUptoCard : Claim7 := { stood := { row := chooseTellsUptoRow, standIns := [], harness := (true, "eb8563946729284a146fecdfc048b11eb3680b54246bf59ade6ea3643f9cf15a"), looks := true }, kinds := [], alts := [], laidByText := true, laidKinds := [.data, .data, .data], laidTests := true, laidLooks := .later }
def ChooseTellsUptoCardSaid : Prop := Claim7.holds Tryz.pinned (.plain (OpenSpec.upto chooseTellsSpec)) chooseTellsUptoCard

/-- THE SECOND FORM's CARD OF 'dormouselaw18.ChooseRound'. -/
def chooseRoundUptoCard : Claim7 := { stood := { row := chooseRoundUptoRow, standIns := [], harness := (true, "eb8563946729284a146fecdfc048b11eb3680b54246bf59ade6ea3643f9cf15a"), looks := true }, kinds := [], alts := [], laidByText := true, laidKinds := [.data, .data, .data], laidTests := true, laidLooks := .later }
def ChooseRoundUptoCardSaid : Prop := Claim7.holds Tryz.pinned (.plain (OpenSpec.upto chooseRoundSpec)) chooseRoundUptoCard
end Rows
end Go.Proofs.YtcbombkaacjngaaGreatDoor
