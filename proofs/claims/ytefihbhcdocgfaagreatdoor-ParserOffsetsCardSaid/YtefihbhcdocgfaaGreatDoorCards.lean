/-
  DERIVED. GIVEN WITH THE SEED: THE CARDS: each row of YtefihbhcdocgfaaGreatDoorRows.lean that lists a variable, with what it lists TIED to the program's text (the seventh form; the later family's looks); each row that meets fmt, with fmt's text TOLD by the authors' own Lean function (tested against real Go, not proved from fmt's source: count such statements apart). THE CARD IS WHAT COUNTS. Prove the row's statement (the work); the ties are given (YtefihbhcdocgfaaGreatDoorTie.lean); close each card by the builder's one call (the guide's Derived/Test/ToyasCard.lean, 'card_holds'). Laid BY PROGRAM, IN A SANDBOX (cutbox-door.mjs). By AI agents, Wed Nov 11 2026. No macro, syntax, notation, axiom, sorry.
-/
import Derived.Test.YtefihbhcdocgfaaGreatDoorRows
import GoSem.ClaimSeven
namespace Go.Proofs.YtefihbhcdocgfaaGreatDoor
namespace Rows

/-- THE TIED CARD OF 'leaseholdlaw02.ParserMatchesReference'. -/
def parserMatchesReferenceCard : Claim7 := { stood := { row := parserMatchesReferenceRow, standIns := [], harness := (true, "e0137acec7d41a02a084f85cb767b95e9fef0cd0e2f1ed293192d6a8e3cc66a4"), looks := true }, kinds := [], alts := [], laidByText := true, laidKinds := [.data, .data, .data, .sentinel, .sentinel, .listed, .data], laidTests := true, laidLooks := .later }
def ParserMatchesReferenceCardSaid : Prop := Claim7.holds Tryz.pinned (.plain (OpenSpec.ofChange parserMatchesReferenceSpec)) parserMatchesReferenceCard

/-- THE TIED CARD OF 'leaseholdlaw02.ParserGaps'. -/
def parserGapsCard : Claim7 := { stood := { row := parserGapsRow, standIns := [], harness := (true, "e0137acec7d41a02a084f85cb767b95e9fef0cd0e2f1ed293192d6a8e3cc66a4"), looks := true }, kinds := [], alts := [], laidByText := true, laidKinds := [.data, .data, .data, .sentinel, .sentinel, .listed, .data], laidTests := true, laidLooks := .later }
def ParserGapsCardSaid : Prop := Claim7.holds Tryz.pinned (.plain (OpenSpec.ofChange parserGapsSpec)) parserGapsCard

/-- THE TIED CARD OF 'leaseholdlaw02.ParserFirstError'. -/
def parserFirstErrorCard : Claim7 := { stood := { row := parserFirstErrorRow, standIns := [], harness := (true, "e0137acec7d41a02a084f85cb767b95e9fef0cd0e2f1ed293192d6a8e3cc66a4"), looks := true }, kinds := [], alts := [], laidByText := true, laidKinds := [.data, .data, .data, .sentinel, .sentinel, .listed, .data], laidTests := true, laidLooks := .later }
def ParserFirstErrorCardSaid : Prop := Claim7.holds Tryz.pinned (.plain (OpenSpec.ofChange parserFirstErrorSpec)) parserFirstErrorCard

/-- THE TIED CARD OF 'leaseholdlaw02.ParserItems'. -/
def parserItemsCard : Claim7 := { stood := { row := parserItemsRow, standIns := [], harness := (true, "e0137acec7d41a02a084f85cb767b95e9fef0cd0e2f1ed293192d6a8e3cc66a4"), looks := true }, kinds := [], alts := [], laidByText := true, laidKinds := [.data, .data, .data, .sentinel, .sentinel, .listed, .data], laidTests := true, laidLooks := .later }
def ParserItemsCardSaid : Prop := Claim7.holds Tryz.pinned (.plain (OpenSpec.ofChange parserItemsSpec)) parserItemsCard

/-- THE TIED CARD OF 'leaseholdlaw02.ParserKeys'. -/
def parserKeysCard : Claim7 := { stood := { row := parserKeysRow, standIns := [], harness := (true, "e0137acec7d41a02a084f85cb767b95e9fef0cd0e2f1ed293192d6a8e3cc66a4"), looks := true }, kinds := [], alts := [], laidByText := true, laidKinds := [.data, .data, .data, .sentinel, .sentinel, .listed, .data], laidTests := true, laidLooks := .later }
def ParserKeysCardSaid : Prop := Claim7.holds Tryz.pinned (.plain (OpenSpec.ofChange parserKeysSpec)) parserKeysCard

/-- THE TIED CARD OF 'leaseholdlaw02.ParserOffsets'. -/
def parserOffsetsCard : Claim7 := { stood := { row := parserOffsetsRow, standIns := [], harness := (true, "e0137acec7d41a02a084f85cb767b95e9fef0cd0e2f1ed293192d6a8e3cc66a4"), looks := true }, kinds := [], alts := [], laidByText := true, laidKinds := [.data, .data, .data, .sentinel, .sentinel, .listed, .data], laidTests := true, laidLooks := .later }
def ParserOffsetsCardSaid : Prop := Claim7.holds Tryz.pinned (.plain (OpenSpec.ofChange parserOffsetsSpec)) parserOffsetsCard

/-- THE SECOND FORM's CARD OF 'leaseholdlaw02.ParserMatchesReference'. -/
def parserMatchesReferenceUptoCard : Claim7 := { stood := { row := parserMatchesReferenceUptoRow, standIns := [], harness := (true, "e0137acec7d41a02a084f85cb767b95e9fef0cd0e2f1ed293192d6a8e3cc66a4"), looks := true }, kinds := [], alts := [], laidByText := true, laidKinds := [.data, .data, .data, .sentinel, .sentinel, .listed, .data], laidTests := true, laidLooks := .later }
def ParserMatchesReferenceUptoCardSaid : Prop := Claim7.holds Tryz.pinned (.plain (OpenSpec.upto parserMatchesReferenceSpec)) parserMatchesReferenceUptoCard

/-- THE SECOND FORM's CARD OF 'leaseholdlaw02.ParserGaps'. -/
def parserGapsUptoCard : Claim7 := { stood := { row := parserGapsUptoRow, standIns := [], harness := (true, "e0137acec7d41a02a084f85cb767b95e9fef0cd0e2f1ed293192d6a8e3cc66a4"), looks := true }, kinds := [], alts := [], laidByText := true, laidKinds := [.data, .data, .data, .sentinel, .sentinel, .listed, .data], laidTests := true, laidLooks := .later }
def ParserGapsUptoCardSaid : Prop := Claim7.holds Tryz.pinned (.plain (OpenSpec.upto parserGapsSpec)) parserGapsUptoCard

/-- THE SECOND FORM's CARD OF 'leaseholdlaw02.ParserFirstError'. -/
def parserFirstErrorUptoCard : Claim7 := { stood := { row := parserFirstErrorUptoRow, standIns := [], harness := (true, "e0137acec7d41a02a084f85cb767b95e9fef0cd0e2f1ed293192d6a8e3cc66a4"), looks := true }, kinds := [], alts := [], laidByText := true, laidKinds := [.data, .data, .data, .sentinel, .sentinel, .listed, .data], laidTests := true, laidLooks := .later }
def ParserFirstErrorUptoCardSaid : Prop := Claim7.holds Tryz.pinned (.plain (OpenSpec.upto parserFirstErrorSpec)) parserFirstErrorUptoCard

/-- THE SECOND FORM's CARD OF 'leaseholdlaw02.ParserItems'. -/
def parserItemsUptoCard : Claim7 := { stood := { row := parserItemsUptoRow, standIns := [], harness := (true, "e0137acec7d41a02a084f85cb767b95e9fef0cd0e2f1ed293192d6a8e3cc66a4"), looks := true }, kinds := [], alts := [], laidByText := true, laidKinds := [.data, .data, .data, .sentinel, .sentinel, .listed, .data], laidTests := true, laidLooks := .later }
def ParserItemsUptoCardSaid : Prop := Claim7.holds Tryz.pinned (.plain (OpenSpec.upto parserItemsSpec)) parserItemsUptoCard

/-- THE SECOND FORM's CARD OF 'leaseholdlaw02.ParserKeys'. -/
def parserKeysUptoCard : Claim7 := { stood := { row := parserKeysUptoRow, standIns := [], harness := (true, "e0137acec7d41a02a084f85cb767b95e9fef0cd0e2f1ed293192d6a8e3cc66a4"), looks := true }, kinds := [], alts := [], laidByText := true, laidKinds := [.data, .data, .data, .sentinel, .sentinel, .listed, .data], laidTests := true, laidLooks := .later }
def ParserKeysUptoCardSaid : Prop := Claim7.holds Tryz.pinned (.plain (OpenSpec.upto parserKeysSpec)) parserKeysUptoCard

/-- THE SECOND FORM's CARD OF 'leaseholdlaw02.ParserOffsets'. -/
def parserOffsetsUptoCard : Claim7 := { stood := { row := parserOffsetsUptoRow, standIns := [], harness := (true, "e0137acec7d41a02a084f85cb767b95e9fef0cd0e2f1ed293192d6a8e3cc66a4"), looks := true }, kinds := [], alts := [], laidByText := true, laidKinds := [.data, .data, .data, .sentinel, .sentinel, .listed, .data], laidTests := true, laidLooks := .later }
def ParserOffsetsUptoCardSaid : Prop := Claim7.holds Tryz.pinned (.plain (OpenSpec.upto parserOffsetsSpec)) parserOffsetsUptoCard
end Rows
end Go.Proofs.YtefihbhcdocgfaaGreatDoor
