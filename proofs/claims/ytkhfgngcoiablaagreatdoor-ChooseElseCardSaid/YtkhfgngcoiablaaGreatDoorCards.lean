/-
  DERIVED. GIVEN WITH THE SEED: THE CARDS: each row of YtkhfgngcoiablaaGreatDoorRows.lean that lists a variable, with what it lists TIED to the program's text (the seventh form; the later family's looks); each row that meets fmt, with fmt's text TOLD by the authors' own Lean function (tested against real Go, not proved from fmt's source: count such statements apart). THE CARD IS WHAT COUNTS. Prove the row's statement (the work); the ties are given (YtkhfgngcoiablaaGreatDoorTie.lean); close each card by the builder's one call (the guide's Derived/Test/ToyasCard.lean, 'card_holds'). Laid BY PROGRAM, IN A SANDBOX (cutbox-door.mjs). By AI agents, Wed Nov 11 2026. No macro, syntax, notation, axiom, sorry.
-/
import Derived.Test.YtkhfgngcoiablaaGreatDoorRows
import GoSem.ClaimSeven
namespace Go.Proofs.YtkhfgngcoiablaaGreatDoor
namespace Rows

/-- THE TIED CARD OF 'dormouselaw14.WakeParks'. -/
def wakeParksCard : Claim7 := { stood := { row := wakeParksRow, standIns := [], harness := (true, "f71bb8d7d62ac8b9c7f81f2258b3cedb17b99b6b454bb9c0db63725b95f515da"), looks := true }, kinds := [], alts := [], laidByText := true, laidKinds := [.data, .data, .data], laidTests := true, laidLooks := .later }
def WakeParksCardSaid : Prop := Claim7.holds Tryz.pinned (.plain (OpenSpec.ofChange wakeParksSpec)) wakeParksCard

/-- THE TIED CARD OF 'dormouselaw16.TakeFirst'. -/
def takeFirstCard : Claim7 := { stood := { row := takeFirstRow, standIns := [], harness := (true, "f71bb8d7d62ac8b9c7f81f2258b3cedb17b99b6b454bb9c0db63725b95f515da"), looks := true }, kinds := [], alts := [], laidByText := true, laidKinds := [.data, .data, .data], laidTests := true, laidLooks := .later }
def TakeFirstCardSaid : Prop := Claim7.holds Tryz.pinned (.plain (OpenSpec.ofChange takeFirstSpec)) takeFirstCard

/-- THE TIED CARD OF 'dormouselaw17.ShutHolds'. -/
def shutHoldsCard : Claim7 := { stood := { row := shutHoldsRow, standIns := [], harness := (true, "f71bb8d7d62ac8b9c7f81f2258b3cedb17b99b6b454bb9c0db63725b95f515da"), looks := true }, kinds := [], alts := [], laidByText := true, laidKinds := [.data, .data, .data], laidTests := true, laidLooks := .later }
def ShutHoldsCardSaid : Prop := Claim7.holds Tryz.pinned (.plain (OpenSpec.ofChange shutHoldsSpec)) shutHoldsCard

/-- THE TIED CARD OF 'dormouselaw14.WakeRegs'. -/
def wakeRegsCard : Claim7 := { stood := { row := wakeRegsRow, standIns := [], harness := (true, "f71bb8d7d62ac8b9c7f81f2258b3cedb17b99b6b454bb9c0db63725b95f515da"), looks := true }, kinds := [], alts := [], laidByText := true, laidKinds := [.data, .data, .data], laidTests := true, laidLooks := .later }
def WakeRegsCardSaid : Prop := Claim7.holds Tryz.pinned (.plain (OpenSpec.ofChange wakeRegsSpec)) wakeRegsCard

/-- THE TIED CARD OF 'dormouselaw14.WakeNowhere'. -/
def wakeNowhereCard : Claim7 := { stood := { row := wakeNowhereRow, standIns := [], harness := (true, "f71bb8d7d62ac8b9c7f81f2258b3cedb17b99b6b454bb9c0db63725b95f515da"), looks := true }, kinds := [], alts := [], laidByText := true, laidKinds := [.data, .data, .data], laidTests := true, laidLooks := .later }
def WakeNowhereCardSaid : Prop := Claim7.holds Tryz.pinned (.plain (OpenSpec.ofChange wakeNowhereSpec)) wakeNowhereCard

/-- THE TIED CARD OF 'dormouselaw17.ShutWakes'. -/
def shutWakesCard : Claim7 := { stood := { row := shutWakesRow, standIns := [], harness := (true, "f71bb8d7d62ac8b9c7f81f2258b3cedb17b99b6b454bb9c0db63725b95f515da"), looks := true }, kinds := [], alts := [], laidByText := true, laidKinds := [.data, .data, .data], laidTests := true, laidLooks := .later }
def ShutWakesCardSaid : Prop := Claim7.holds Tryz.pinned (.plain (OpenSpec.ofChange shutWakesSpec)) shutWakesCard

/-- THE TIED CARD OF 'dormouselaw18.ChooseElse'. -/
def chooseElseCard : Claim7 := { stood := { row := chooseElseRow, standIns := [], harness := (true, "f71bb8d7d62ac8b9c7f81f2258b3cedb17b99b6b454bb9c0db63725b95f515da"), looks := true }, kinds := [], alts := [], laidByText := true, laidKinds := [.data, .data, .data], laidTests := true, laidLooks := .later }
def ChooseElseCardSaid : Prop := Claim7.holds Tryz.pinned (.plain (OpenSpec.ofChange chooseElseSpec)) chooseElseCard

/-- THE TIED CARD OF 'dormouselaw12.RingTurns'. -/
def ringTurnsCard : Claim7 := { stood := { row := ringTurnsRow, standIns := [], harness := (true, "f71bb8d7d62ac8b9c7f81f2258b3cedb17b99b6b454bb9c0db63725b95f515da"), looks := true }, kinds := [], alts := [], laidByText := true, laidKinds := [.data, .data, .data], laidTests := true, laidLooks := .later }
def RingTurnsCardSaid : Prop := Claim7.holds Tryz.pinned (.plain (OpenSpec.ofChange ringTurnsSpec)) ringTurnsCard

/-- THE TIED CARD OF 'dormouselaw12.RingApart'. -/
def ringApartCard : Claim7 := { stood := { row := ringApartRow, standIns := [], harness := (true, "f71bb8d7d62ac8b9c7f81f2258b3cedb17b99b6b454bb9c0db63725b95f515da"), looks := true }, kinds := [], alts := [], laidByText := true, laidKinds := [.data, .data, .data], laidTests := true, laidLooks := .later }
def RingApartCardSaid : Prop := Claim7.holds Tryz.pinned (.plain (OpenSpec.ofChange ringApartSpec)) ringApartCard

/-- THE SECOND FORM's CARD OF 'dormouselaw14.WakeParks'. -/
def wakeParksUptoCard : Claim7 := { stood := { row := wakeParksUptoRow, standIns := [], harness := (true, "f71bb8d7d62ac8b9c7f81f2258b3cedb17b99b6b454bb9c0db63725b95f515da"), looks := true }, kinds := [], alts := [], laidByText := true, laidKinds := [.data, .data, .data], laidTests := true, laidLooks := .later }
def WakeParksUptoCardSaid : Prop := Claim7.holds Tryz.pinned (.plain (OpenSpec.upto wakeParksSpec)) wakeParksUptoCard

/-- THE SECOND FORM's CARD OF 'dormouselaw16.TakeFirst'. -/
def takeFirstUptoCard : Claim7 := { stood := { row := takeFirstUptoRow, standIns := [], harness := (true, "f71bb8d7d62ac8b9c7f81f2258b3cedb17b99b6b454bb9c0db63725b95f515da"), looks := true }, kinds := [], alts := [], laidByText := true, laidKinds := [.data, .data, .data], laidTests := true, laidLooks := .later }
def TakeFirstUptoCardSaid : Prop := Claim7.holds Tryz.pinned (.plain (OpenSpec.upto takeFirstSpec)) takeFirstUptoCard

/-- THE SECOND FORM's CARD OF 'dormouselaw17.ShutHolds'. -/
def shutHoldsUptoCard : Claim7 := { stood := { row := shutHoldsUptoRow, standIns := [], harness := (true, "f71bb8d7d62ac8b9c7f81f2258b3cedb17b99b6b454bb9c0db63725b95f515da"), looks := true }, kinds := [], alts := [], laidByText := true, laidKinds := [.data, .data, .data], laidTests := true, laidLooks := .later }
def ShutHoldsUptoCardSaid : Prop := Claim7.holds Tryz.pinned (.plain (OpenSpec.upto shutHoldsSpec)) shutHoldsUptoCard

/-- THE SECOND FORM's CARD OF 'dormouselaw14.WakeRegs'. -/
def wakeRegsUptoCard : Claim7 := { stood := { row := wakeRegsUptoRow, standIns := [], harness := (true, "f71bb8d7d62ac8b9c7f81f2258b3cedb17b99b6b454bb9c0db63725b95f515da"), looks := true }, kinds := [], alts := [], laidByText := true, laidKinds := [.data, .data, .data], laidTests := true, laidLooks := .later }
def WakeRegsUptoCardSaid : Prop := Claim7.holds Tryz.pinned (.plain (OpenSpec.upto wakeRegsSpec)) wakeRegsUptoCard

/-- THE SECOND FORM's CARD OF 'dormouselaw14.WakeNowhere'. -/
def wakeNowhereUptoCard : Claim7 := { stood := { row := wakeNowhereUptoRow, standIns := [], harness := (true, "f71bb8d7d62ac8b9c7f81f2258b3cedb17b99b6b454bb9c0db63725b95f515da"), looks := true }, kinds := [], alts := [], laidByText := true, laidKinds := [.data, .data, .data], laidTests := true, laidLooks := .later }
def WakeNowhereUptoCardSaid : Prop := Claim7.holds Tryz.pinned (.plain (OpenSpec.upto wakeNowhereSpec)) wakeNowhereUptoCard

/-- THE SECOND FORM's CARD OF 'dormouselaw17.ShutWakes'. -/
def shutWakesUptoCard : Claim7 := { stood := { row := shutWakesUptoRow, standIns := [], harness := (true, "f71bb8d7d62ac8b9c7f81f2258b3cedb17b99b6b454bb9c0db63725b95f515da"), looks := true }, kinds := [], alts := [], laidByText := true, laidKinds := [.data, .data, .data], laidTests := true, laidLooks := .later }
def ShutWakesUptoCardSaid : Prop := Claim7.holds Tryz.pinned (.plain (OpenSpec.upto shutWakesSpec)) shutWakesUptoCard

/-- THE SECOND FORM's CARD OF 'dormouselaw18.ChooseElse'. -/
def chooseElseUptoCard : Claim7 := { stood := { row := chooseElseUptoRow, standIns := [], harness := (true, "f71bb8d7d62ac8b9c7f81f2258b3cedb17b99b6b454bb9c0db63725b95f515da"), looks := true }, kinds := [], alts := [], laidByText := true, laidKinds := [.data, .data, .data], laidTests := true, laidLooks := .later }
def ChooseElseUptoCardSaid : Prop := Claim7.holds Tryz.pinned (.plain (OpenSpec.upto chooseElseSpec)) chooseElseUptoCard

/-- THE SECOND FORM's CARD OF 'dormouselaw12.RingTurns'. -/
def ringTurnsUptoCard : Claim7 := { stood := { row := ringTurnsUptoRow, standIns := [], harness := (true, "f71bb8d7d62ac8b9c7f81f2258b3cedb17b99b6b454bb9c0db63725b95f515da"), looks := true }, kinds := [], alts := [], laidByText := true, laidKinds := [.data, .data, .data], laidTests := true, laidLooks := .later }
def RingTurnsUptoCardSaid : Prop := Claim7.holds Tryz.pinned (.plain (OpenSpec.upto ringTurnsSpec)) ringTurnsUptoCard

/-- THE SECOND FORM's CARD OF 'dormouselaw12.RingApart'. -/
def ringApartUptoCard : Claim7 := { stood := { row := ringApartUptoRow, standIns := [], harness := (true, "f71bb8d7d62ac8b9c7f81f2258b3cedb17b99b6b454bb9c0db63725b95f515da"), looks := true }, kinds := [], alts := [], laidByText := true, laidKinds := [.data, .data, .data], laidTests := true, laidLooks := .later }
def RingApartUptoCardSaid : Prop := Claim7.holds Tryz.pinned (.plain (OpenSpec.upto ringApartSpec)) ringApartUptoCard
end Rows
end Go.Proofs.YtkhfgngcoiablaaGreatDoor
