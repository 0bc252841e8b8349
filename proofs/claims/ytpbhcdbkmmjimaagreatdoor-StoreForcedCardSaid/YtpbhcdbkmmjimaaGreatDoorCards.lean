/-
  DERIVED. GIVEN WITH THE SEED: THE CARDS: each row of YtpbhcdbkmmjimaaGreatDoorRows.lean that lists a variable, with what it lists TIED to the program's text (the seventh form; the later family's looks); each row that meets fmt, with fmt's text TOLD by the authors' own Lean function (tested against real Go, not proved from fmt's source: count such statements apart). THE CARD IS WHAT COUNTS. Prove the row's statement (the work); the ties are given (YtpbhcdbkmmjimaaGreatDoorTie.lean); close each card by the builder's one call (the guide's Derived/Test/ToyasCard.lean, 'card_holds'). Laid BY PROGRAM, IN A SANDBOX (cutbox-door.mjs). By AI agents, Wed Nov 11 2026. No macro, syntax, notation, axiom, sorry.
-/
import Derived.Test.YtpbhcdbkmmjimaaGreatDoorRows
import GoSem.ClaimSeven
namespace Go.Proofs.YtpbhcdbkmmjimaaGreatDoor
namespace Rows

/-- THE TIED CARD OF 'dormouselaw21.StorePlays'. -/
def storePlaysCard : Claim7 := { stood := { row := storePlaysRow, standIns := [], harness := (true, "db595cff87dc90c9c6b9da6001a944599e7241cce8bf593329adcd87b8a9d5b9"), looks := true }, kinds := [], alts := [], laidByText := true, laidKinds := [.data, .data, .data, .sentinel, .sentinel], laidTests := true, laidLooks := .later }
def StorePlaysCardSaid : Prop := Claim7.holds Tryz.pinned (.plain (OpenSpec.ofChange storePlaysSpec)) storePlaysCard

/-- THE TIED CARD OF 'dormouselaw21.StoreFull'. -/
def storeFullCard : Claim7 := { stood := { row := storeFullRow, standIns := [], harness := (true, "db595cff87dc90c9c6b9da6001a944599e7241cce8bf593329adcd87b8a9d5b9"), looks := true }, kinds := [], alts := [], laidByText := true, laidKinds := [.data, .data, .data, .sentinel, .sentinel], laidTests := true, laidLooks := .later }
def StoreFullCardSaid : Prop := Claim7.holds Tryz.pinned (.plain (OpenSpec.ofChange storeFullSpec)) storeFullCard

/-- THE TIED CARD OF 'dormouselaw21.StoreAll'. -/
def storeAllCard : Claim7 := { stood := { row := storeAllRow, standIns := [], harness := (true, "db595cff87dc90c9c6b9da6001a944599e7241cce8bf593329adcd87b8a9d5b9"), looks := true }, kinds := [], alts := [], laidByText := true, laidKinds := [.data, .data, .data, .sentinel, .sentinel], laidTests := true, laidLooks := .later }
def StoreAllCardSaid : Prop := Claim7.holds Tryz.pinned (.plain (OpenSpec.ofChange storeAllSpec)) storeAllCard

/-- THE TIED CARD OF 'dormouselaw21.StoreRefuses'. -/
def storeRefusesCard : Claim7 := { stood := { row := storeRefusesRow, standIns := [], harness := (true, "db595cff87dc90c9c6b9da6001a944599e7241cce8bf593329adcd87b8a9d5b9"), looks := true }, kinds := [], alts := [], laidByText := true, laidKinds := [.data, .data, .data, .sentinel, .sentinel], laidTests := true, laidLooks := .later }
def StoreRefusesCardSaid : Prop := Claim7.holds Tryz.pinned (.plain (OpenSpec.ofChange storeRefusesSpec)) storeRefusesCard

/-- THE TIED CARD OF 'dormouselaw21.StorePace'. -/
def storePaceCard : Claim7 := { stood := { row := storePaceRow, standIns := [], harness := (true, "db595cff87dc90c9c6b9da6001a944599e7241cce8bf593329adcd87b8a9d5b9"), looks := true }, kinds := [], alts := [], laidByText := true, laidKinds := [.data, .data, .data, .sentinel, .sentinel], laidTests := true, laidLooks := .later }
def StorePaceCardSaid : Prop := Claim7.holds Tryz.pinned (.plain (OpenSpec.ofChange storePaceSpec)) storePaceCard

/-- THE TIED CARD OF 'dormouselaw21.StoreForced'. -/
def storeForcedCard : Claim7 := { stood := { row := storeForcedRow, standIns := [], harness := (true, "db595cff87dc90c9c6b9da6001a944599e7241cce8bf593329adcd87b8a9d5b9"), looks := true }, kinds := [], alts := [], laidByText := true, laidKinds := [.data, .data, .data, .sentinel, .sentinel], laidTests := true, laidLooks := .later }
def StoreForcedCardSaid : Prop := Claim7.holds Tryz.pinned (.plain (OpenSpec.ofChange storeForcedSpec)) storeForcedCard

/-- THE TIED CARD OF 'dormouselaw21.StoreKeeps'. -/
def storeKeepsCard : Claim7 := { stood := { row := storeKeepsRow, standIns := [], harness := (true, "db595cff87dc90c9c6b9da6001a944599e7241cce8bf593329adcd87b8a9d5b9"), looks := true }, kinds := [], alts := [], laidByText := true, laidKinds := [.data, .data, .data, .sentinel, .sentinel], laidTests := true, laidLooks := .later }
def StoreKeepsCardSaid : Prop := Claim7.holds Tryz.pinned (.plain (OpenSpec.ofChange storeKeepsSpec)) storeKeepsCard

/-- THE SECOND FORM's CARD OF 'dormouselaw21.StorePlays'. -/
def storePlaysUptoCard : Claim7 := { stood := { row := storePlaysUptoRow, standIns := [], harness := (true, "db595cff87dc90c9c6b9da6001a944599e7241cce8bf593329adcd87b8a9d5b9"), looks := true }, kinds := [], alts := [], laidByText := true, laidKinds := [.data, .data, .data, .sentinel, .sentinel], laidTests := true, laidLooks := .later }
def StorePlaysUptoCardSaid : Prop := Claim7.holds Tryz.pinned (.plain (OpenSpec.upto storePlaysSpec)) storePlaysUptoCard

/-- THE SECOND FORM's CARD OF 'dormouselaw21.StoreFull'. -/
def storeFullUptoCard : Claim7 := { stood := { row := storeFullUptoRow, standIns := [], harness := (true, "db595cff87dc90c9c6b9da6001a944599e7241cce8bf593329adcd87b8a9d5b9"), looks := true }, kinds := [], alts := [], laidByText := true, laidKinds := [.data, .data, .data, .sentinel, .sentinel], laidTests := true, laidLooks := .later }
def StoreFullUptoCardSaid : Prop := Claim7.holds Tryz.pinned (.plain (OpenSpec.upto storeFullSpec)) storeFullUptoCard

/-- THE SECOND FORM's CARD OF 'dormouselaw21.StoreAll'. -/
def storeAllUptoCard : Claim7 := { stood := { row := storeAllUptoRow, standIns := [], harness := (true, "db595cff87dc90c9c6b9da6001a944599e7241cce8bf593329adcd87b8a9d5b9"), looks := true }, kinds := [], alts := [], laidByText := true, laidKinds := [.data, .data, .data, .sentinel, .sentinel], laidTests := true, laidLooks := .later }
def StoreAllUptoCardSaid : Prop := Claim7.holds Tryz.pinned (.plain (OpenSpec.upto storeAllSpec)) storeAllUptoCard

/-- THE SECOND FORM's CARD OF 'dormouselaw21.StoreRefuses'. -/
def storeRefusesUptoCard : Claim7 := { stood := { row := storeRefusesUptoRow, standIns := [], harness := (true, "db595cff87dc90c9c6b9da6001a944599e7241cce8bf593329adcd87b8a9d5b9"), looks := true }, kinds := [], alts := [], laidByText := true, laidKinds := [.data, .data, .data, .sentinel, .sentinel], laidTests := true, laidLooks := .later }
def StoreRefusesUptoCardSaid : Prop := Claim7.holds Tryz.pinned (.plain (OpenSpec.upto storeRefusesSpec)) storeRefusesUptoCard

/-- THE SECOND FORM's CARD OF 'dormouselaw21.StorePace'. -/
def storePaceUptoCard : Claim7 := { stood := { row := storePaceUptoRow, standIns := [], harness := (true, "db595cff87dc90c9c6b9da6001a944599e7241cce8bf593329adcd87b8a9d5b9"), looks := true }, kinds := [], alts := [], laidByText := true, laidKinds := [.data, .data, .data, .sentinel, .sentinel], laidTests := true, laidLooks := .later }
def StorePaceUptoCardSaid : Prop := Claim7.holds Tryz.pinned (.plain (OpenSpec.upto storePaceSpec)) storePaceUptoCard

/-- THE SECOND FORM's CARD OF 'dormouselaw21.StoreForced'. -/
def storeForcedUptoCard : Claim7 := { stood := { row := storeForcedUptoRow, standIns := [], harness := (true, "db595cff87dc90c9c6b9da6001a944599e7241cce8bf593329adcd87b8a9d5b9"), looks := true }, kinds := [], alts := [], laidByText := true, laidKinds := [.data, .data, .data, .sentinel, .sentinel], laidTests := true, laidLooks := .later }
def StoreForcedUptoCardSaid : Prop := Claim7.holds Tryz.pinned (.plain (OpenSpec.upto storeForcedSpec)) storeForcedUptoCard

/-- THE SECOND FORM's CARD OF 'dormouselaw21.StoreKeeps'. -/
def storeKeepsUptoCard : Claim7 := { stood := { row := storeKeepsUptoRow, standIns := [], harness := (true, "db595cff87dc90c9c6b9da6001a944599e7241cce8bf593329adcd87b8a9d5b9"), looks := true }, kinds := [], alts := [], laidByText := true, laidKinds := [.data, .data, .data, .sentinel, .sentinel], laidTests := true, laidLooks := .later }
def StoreKeepsUptoCardSaid : Prop := Claim7.holds Tryz.pinned (.plain (OpenSpec.upto storeKeepsSpec)) storeKeepsUptoCard
end Rows
end Go.Proofs.YtpbhcdbkmmjimaaGreatDoor
