/-
  DERIVED. GIVEN WITH THE SEED: THE CARDS: each row of YtpdhiminpdmpiaaGreatDoorRows.lean that lists a variable, with what it lists TIED to the program's text (the seventh form; the later family's looks); each row that meets fmt, with fmt's text TOLD by the authors' own Lean function (tested against real Go, not proved from fmt's source: count such statements apart). THE CARD IS WHAT COUNTS. Prove the row's statement (the work); the ties are given (YtpdhiminpdmpiaaGreatDoorTie.lean); close each card by the builder's one call (the guide's Derived/Test/ToyasCard.lean, 'card_holds'). Laid BY PROGRAM, IN A SANDBOX (cutbox-door.mjs). By AI agents, Wed Nov 11 2026. No macro, syntax, notation, axiom, sorry.
-/
import Derived.Test.YtpdhiminpdmpiaaGreatDoorRows
import GoSem.ClaimSeven
namespace Go.Proofs.YtpdhiminpdmpiaaGreatDoor
namespace Rows

/-- THE TIED CARD OF 'leaseholdlaw02.ParserMatchesReference'. -/
def parserMatchesReferenceCard : Claim7 := { stood := { row := parserMatchesReferenceRow, standIns := [], harness := (true, "a9353de1eb225ba90160c1db1e0cefa703dac6c0c82f9bc272e7eb1542c32068"), looks := true }, kinds := [], alts := [], laidByText := true, laidKinds := [.data, .data, .data, .sentinel, .sentinel, .listed, .data], laidTests := true, laidLooks := .later }
def ParserMatchesReferenceCardSaid : Prop := Claim7.holds Tryz.pinned (.plain (OpenSpec.ofChange parserMatchesReferenceSpec)) parserMatchesReferenceCard

/-- THE TIED CARD OF 'leaseholdlaw02.ParserGaps'. -/
def parserGapsCard : Claim7 := { stood := { row := parserGapsRow, standIns := [], harness := (true, "a9353de1eb225ba90160c1db1e0cefa703dac6c0c82f9bc272e7eb1542c32068"), looks := true }, kinds := [], alts := [], laidByText := true, laidKinds := [.data, .data, .data, .sentinel, .sentinel, .listed, .data], laidTests := true, laidLooks := .later }
def ParserGapsCardSaid : Prop := Claim7.holds Tryz.pinned (.plain (OpenSpec.ofChange parserGapsSpec)) parserGapsCard

/-- THE TIED CARD OF 'leaseholdlaw02.ParserItems'. -/
def parserItemsCard : Claim7 := { stood := { row := parserItemsRow, standIns := [], harness := (true, "a9353de1eb225ba90160c1db1e0cefa703dac6c0c82f9bc272e7eb1542c32068"), looks := true }, kinds := [], alts := [], laidByText := true, laidKinds := [.data, .data, .data, .sentinel, .sentinel, .listed, .data], laidTests := true, laidLooks := .later }
def ParserItemsCardSaid : Prop := Claim7.holds Tryz.pinned (.plain (OpenSpec.ofChange parserItemsSpec)) parserItemsCard

/-- THE TIED CARD OF 'leaseholdlaw03.PrinterMatchesReference'. -/
def printerMatchesReferenceCard : Claim7 := { stood := { row := printerMatchesReferenceRow, standIns := [], harness := (true, "a9353de1eb225ba90160c1db1e0cefa703dac6c0c82f9bc272e7eb1542c32068"), looks := true }, kinds := [], alts := [], laidByText := true, laidKinds := [.data, .data, .data, .sentinel, .sentinel, .listed, .data, .data, .data, .data], laidTests := true, laidLooks := .later }
def PrinterMatchesReferenceCardSaid : Prop := Claim7.holds Tryz.pinned (.plain (OpenSpec.ofChange printerMatchesReferenceSpec)) printerMatchesReferenceCard

/-- THE TIED CARD OF 'leaseholdlaw03.PrinterInverse'. -/
def printerInverseCard : Claim7 := { stood := { row := printerInverseRow, standIns := [], harness := (true, "a9353de1eb225ba90160c1db1e0cefa703dac6c0c82f9bc272e7eb1542c32068"), looks := true }, kinds := [], alts := [], laidByText := true, laidKinds := [.data, .data, .data, .sentinel, .sentinel, .listed, .data, .data, .data, .data], laidTests := true, laidLooks := .later }
def PrinterInverseCardSaid : Prop := Claim7.holds Tryz.pinned (.plain (OpenSpec.ofChange printerInverseSpec)) printerInverseCard

/-- THE TIED CARD OF 'leaseholdlaw03.PrinterCanonical'. -/
def printerCanonicalCard : Claim7 := { stood := { row := printerCanonicalRow, standIns := [], harness := (true, "a9353de1eb225ba90160c1db1e0cefa703dac6c0c82f9bc272e7eb1542c32068"), looks := true }, kinds := [], alts := [], laidByText := true, laidKinds := [.data, .data, .data, .sentinel, .sentinel, .listed, .data, .data, .data, .data], laidTests := true, laidLooks := .later }
def PrinterCanonicalCardSaid : Prop := Claim7.holds Tryz.pinned (.plain (OpenSpec.ofChange printerCanonicalSpec)) printerCanonicalCard

/-- THE TIED CARD OF 'leaseholdlaw03.PrinterDifferent'. -/
def printerDifferentCard : Claim7 := { stood := { row := printerDifferentRow, standIns := [], harness := (true, "a9353de1eb225ba90160c1db1e0cefa703dac6c0c82f9bc272e7eb1542c32068"), looks := true }, kinds := [], alts := [], laidByText := true, laidKinds := [.data, .data, .data, .sentinel, .sentinel, .listed, .data, .data, .data, .data], laidTests := true, laidLooks := .later }
def PrinterDifferentCardSaid : Prop := Claim7.holds Tryz.pinned (.plain (OpenSpec.ofChange printerDifferentSpec)) printerDifferentCard

/-- THE TIED CARD OF 'leaseholdlaw03.PrinterParts'. -/
def printerPartsCard : Claim7 := { stood := { row := printerPartsRow, standIns := [], harness := (true, "a9353de1eb225ba90160c1db1e0cefa703dac6c0c82f9bc272e7eb1542c32068"), looks := true }, kinds := [], alts := [], laidByText := true, laidKinds := [.data, .data, .data, .sentinel, .sentinel, .listed, .data, .data, .data, .data], laidTests := true, laidLooks := .later }
def PrinterPartsCardSaid : Prop := Claim7.holds Tryz.pinned (.plain (OpenSpec.ofChange printerPartsSpec)) printerPartsCard

/-- THE TIED CARD OF 'leaseholdlaw03.PrinterNames'. -/
def printerNamesCard : Claim7 := { stood := { row := printerNamesRow, standIns := [], harness := (true, "a9353de1eb225ba90160c1db1e0cefa703dac6c0c82f9bc272e7eb1542c32068"), looks := true }, kinds := [], alts := [], laidByText := true, laidKinds := [.data, .data, .data, .sentinel, .sentinel, .listed, .data, .data, .data, .data], laidTests := true, laidLooks := .later }
def PrinterNamesCardSaid : Prop := Claim7.holds Tryz.pinned (.plain (OpenSpec.ofChange printerNamesSpec)) printerNamesCard

/-- THE TIED CARD OF 'leaseholdlaw03.PrinterLayout'. -/
def printerLayoutCard : Claim7 := { stood := { row := printerLayoutRow, standIns := [], harness := (true, "a9353de1eb225ba90160c1db1e0cefa703dac6c0c82f9bc272e7eb1542c32068"), looks := true }, kinds := [], alts := [], laidByText := true, laidKinds := [.data, .data, .data, .sentinel, .sentinel, .listed, .data, .data, .data, .data], laidTests := true, laidLooks := .later }
def PrinterLayoutCardSaid : Prop := Claim7.holds Tryz.pinned (.plain (OpenSpec.ofChange printerLayoutSpec)) printerLayoutCard

/-- THE SECOND FORM's CARD OF 'leaseholdlaw02.ParserMatchesReference'. -/
def parserMatchesReferenceUptoCard : Claim7 := { stood := { row := parserMatchesReferenceUptoRow, standIns := [], harness := (true, "a9353de1eb225ba90160c1db1e0cefa703dac6c0c82f9bc272e7eb1542c32068"), looks := true }, kinds := [], alts := [], laidByText := true, laidKinds := [.data, .data, .data, .sentinel, .sentinel, .listed, .data], laidTests := true, laidLooks := .later }
def ParserMatchesReferenceUptoCardSaid : Prop := Claim7.holds Tryz.pinned (.plain (OpenSpec.upto parserMatchesReferenceSpec)) parserMatchesReferenceUptoCard

/-- THE SECOND FORM's CARD OF 'leaseholdlaw02.ParserGaps'. -/
def parserGapsUptoCard : Claim7 := { stood := { row := parserGapsUptoRow, standIns := [], harness := (true, "a9353de1eb225ba90160c1db1e0cefa703dac6c0c82f9bc272e7eb1542c32068"), looks := true }, kinds := [], alts := [], laidByText := true, laidKinds := [.data, .data, .data, .sentinel, .sentinel, .listed, .data], laidTests := true, laidLooks := .later }
def ParserGapsUptoCardSaid : Prop := Claim7.holds Tryz.pinned (.plain (OpenSpec.upto parserGapsSpec)) parserGapsUptoCard

/-- THE SECOND FORM's CARD OF 'leaseholdlaw02.ParserItems'. -/
def parserItemsUptoCard : Claim7 := { stood := { row := parserItemsUptoRow, standIns := [], harness := (true, "a9353de1eb225ba90160c1db1e0cefa703dac6c0c82f9bc272e7eb1542c32068"), looks := true }, kinds := [], alts := [], laidByText := true, laidKinds := [.data, .data, .data, .sentinel, .sentinel, .listed, .data], laidTests := true, laidLooks := .later }
def ParserItemsUptoCardSaid : Prop := Claim7.holds Tryz.pinned (.plain (OpenSpec.upto parserItemsSpec)) parserItemsUptoCard

/-- THE SECOND FORM's CARD OF 'leaseholdlaw03.PrinterMatchesReference'. -/
def printerMatchesReferenceUptoCard : Claim7 := { stood := { row := printerMatchesReferenceUptoRow, standIns := [], harness := (true, "a9353de1eb225ba90160c1db1e0cefa703dac6c0c82f9bc272e7eb1542c32068"), looks := true }, kinds := [], alts := [], laidByText := true, laidKinds := [.data, .data, .data, .sentinel, .sentinel, .listed, .data, .data, .data, .data], laidTests := true, laidLooks := .later }
def PrinterMatchesReferenceUptoCardSaid : Prop := Claim7.holds Tryz.pinned (.plain (OpenSpec.upto printerMatchesReferenceSpec)) printerMatchesReferenceUptoCard

/-- THE SECOND FORM's CARD OF 'leaseholdlaw03.PrinterInverse'. -/
def printerInverseUptoCard : Claim7 := { stood := { row := printerInverseUptoRow, standIns := [], harness := (true, "a9353de1eb225ba90160c1db1e0cefa703dac6c0c82f9bc272e7eb1542c32068"), looks := true }, kinds := [], alts := [], laidByText := true, laidKinds := [.data, .data, .data, .sentinel, .sentinel, .listed, .data, .data, .data, .data], laidTests := true, laidLooks := .later }
def PrinterInverseUptoCardSaid : Prop := Claim7.holds Tryz.pinned (.plain (OpenSpec.upto printerInverseSpec)) printerInverseUptoCard

/-- THE SECOND FORM's CARD OF 'leaseholdlaw03.PrinterCanonical'. -/
def printerCanonicalUptoCard : Claim7 := { stood := { row := printerCanonicalUptoRow, standIns := [], harness := (true, "a9353de1eb225ba90160c1db1e0cefa703dac6c0c82f9bc272e7eb1542c32068"), looks := true }, kinds := [], alts := [], laidByText := true, laidKinds := [.data, .data, .data, .sentinel, .sentinel, .listed, .data, .data, .data, .data], laidTests := true, laidLooks := .later }
def PrinterCanonicalUptoCardSaid : Prop := Claim7.holds Tryz.pinned (.plain (OpenSpec.upto printerCanonicalSpec)) printerCanonicalUptoCard

/-- THE SECOND FORM's CARD OF 'leaseholdlaw03.PrinterDifferent'. -/
def printerDifferentUptoCard : Claim7 := { stood := { row := printerDifferentUptoRow, standIns := [], harness := (true, "a9353de1eb225ba90160c1db1e0cefa703dac6c0c82f9bc272e7eb1542c32068"), looks := true }, kinds := [], alts := [], laidByText := true, laidKinds := [.data, .data, .data, .sentinel, .sentinel, .listed, .data, .data, .data, .data], laidTests := true, laidLooks := .later }
def PrinterDifferentUptoCardSaid : Prop := Claim7.holds Tryz.pinned (.plain (OpenSpec.upto printerDifferentSpec)) printerDifferentUptoCard

/-- THE SECOND FORM's CARD OF 'leaseholdlaw03.PrinterParts'. -/
def printerPartsUptoCard : Claim7 := { stood := { row := printerPartsUptoRow, standIns := [], harness := (true, "a9353de1eb225ba90160c1db1e0cefa703dac6c0c82f9bc272e7eb1542c32068"), looks := true }, kinds := [], alts := [], laidByText := true, laidKinds := [.data, .data, .data, .sentinel, .sentinel, .listed, .data, .data, .data, .data], laidTests := true, laidLooks := .later }
def PrinterPartsUptoCardSaid : Prop := Claim7.holds Tryz.pinned (.plain (OpenSpec.upto printerPartsSpec)) printerPartsUptoCard

/-- THE SECOND FORM's CARD OF 'leaseholdlaw03.PrinterNames'. -/
def printerNamesUptoCard : Claim7 := { stood := { row := printerNamesUptoRow, standIns := [], harness := (true, "a9353de1eb225ba90160c1db1e0cefa703dac6c0c82f9bc272e7eb1542c32068"), looks := true }, kinds := [], alts := [], laidByText := true, laidKinds := [.data, .data, .data, .sentinel, .sentinel, .listed, .data, .data, .data, .data], laidTests := true, laidLooks := .later }
def PrinterNamesUptoCardSaid : Prop := Claim7.holds Tryz.pinned (.plain (OpenSpec.upto printerNamesSpec)) printerNamesUptoCard

/-- THE SECOND FORM's CARD OF 'leaseholdlaw03.PrinterLayout'. -/
def printerLayoutUptoCard : Claim7 := { stood := { row := printerLayoutUptoRow, standIns := [], harness := (true, "a9353de1eb225ba90160c1db1e0cefa703dac6c0c82f9bc272e7eb1542c32068"), looks := true }, kinds := [], alts := [], laidByText := true, laidKinds := [.data, .data, .data, .sentinel, .sentinel, .listed, .data, .data, .data, .data], laidTests := true, laidLooks := .later }
def PrinterLayoutUptoCardSaid : Prop := Claim7.holds Tryz.pinned (.plain (OpenSpec.upto printerLayoutSpec)) printerLayoutUptoCard
end Rows
end Go.Proofs.YtpdhiminpdmpiaaGreatDoor
