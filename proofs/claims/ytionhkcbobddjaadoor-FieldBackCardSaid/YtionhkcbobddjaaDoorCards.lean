/-
  DERIVED. GIVEN WITH THE SEED: THE CARDS: each row of YtionhkcbobddjaaDoorRows.lean that lists a variable, with what it lists TIED to the program's text (the seventh form; the later family's looks); each row that meets fmt, with fmt's text TOLD by the authors' own Lean function (tested against real Go, not proved from fmt's source: count such statements apart). THE CARD IS WHAT COUNTS. Prove the row's statement (the work); the ties are given (YtionhkcbobddjaaDoorTie.lean); close each card by the builder's one call (the guide's Derived/Test/ToyasCard.lean, 'card_holds'). Laid BY PROGRAM, IN A SANDBOX (cutbox-door.mjs). By AI agents, Wed Nov 11 2026. No macro, syntax, notation, axiom, sorry.
-/
import Derived.Test.YtionhkcbobddjaaDoorRows
import GoSem.ClaimSeven
namespace Go.Proofs.YtionhkcbobddjaaDoor
namespace Rows

/-- THE TIED CARD OF 'weirkeeplaw01.FieldWrites'. -/
def fieldWritesCard : Claim7 := { stood := { row := fieldWritesRow, standIns := [], harness := (true, "ece1408ae728d81c59db63f96314c62a824cefc75024462bf4abeedeacb101af"), looks := true }, kinds := [], alts := [], laidByText := true, laidKinds := [.handle], laidTests := true, laidLooks := .later }
def FieldWritesCardSaid : Prop := Claim7.holds Tryd.pinned (.plain (OpenSpec.ofChange fieldWritesSpec)) fieldWritesCard

/-- THE TIED CARD OF 'weirkeeplaw01.FieldReads'. -/
def fieldReadsCard : Claim7 := { stood := { row := fieldReadsRow, standIns := [], harness := (true, "ece1408ae728d81c59db63f96314c62a824cefc75024462bf4abeedeacb101af"), looks := true }, kinds := [], alts := [], laidByText := true, laidKinds := [.handle], laidTests := true, laidLooks := .later }
def FieldReadsCardSaid : Prop := Claim7.holds Tryd.pinned (.plain (OpenSpec.ofChange fieldReadsSpec)) fieldReadsCard

/-- THE TIED CARD OF 'weirkeeplaw01.FieldBack'. -/
def fieldBackCard : Claim7 := { stood := { row := fieldBackRow, standIns := [], harness := (true, "ece1408ae728d81c59db63f96314c62a824cefc75024462bf4abeedeacb101af"), looks := true }, kinds := [], alts := [], laidByText := true, laidKinds := [.handle], laidTests := true, laidLooks := .later }
def FieldBackCardSaid : Prop := Claim7.holds Tryd.pinned (.plain (OpenSpec.ofChange fieldBackSpec)) fieldBackCard

/-- THE TIED CARD OF 'weirkeeplaw01.FieldWide'. -/
def fieldWideCard : Claim7 := { stood := { row := fieldWideRow, standIns := [], harness := (true, "ece1408ae728d81c59db63f96314c62a824cefc75024462bf4abeedeacb101af"), looks := true }, kinds := [], alts := [], laidByText := true, laidKinds := [.handle], laidTests := true, laidLooks := .later }
def FieldWideCardSaid : Prop := Claim7.holds Tryd.pinned (.plain (OpenSpec.ofChange fieldWideSpec)) fieldWideCard

/-- THE TIED CARD OF 'weirkeeplaw01.FieldJoined'. -/
def fieldJoinedCard : Claim7 := { stood := { row := fieldJoinedRow, standIns := [], harness := (true, "ece1408ae728d81c59db63f96314c62a824cefc75024462bf4abeedeacb101af"), looks := true }, kinds := [], alts := [], laidByText := true, laidKinds := [.handle], laidTests := true, laidLooks := .later }
def FieldJoinedCardSaid : Prop := Claim7.holds Tryd.pinned (.plain (OpenSpec.ofChange fieldJoinedSpec)) fieldJoinedCard

/-- THE TIED CARD OF 'weirkeeplaw01.FieldCut'. -/
def fieldCutCard : Claim7 := { stood := { row := fieldCutRow, standIns := [], harness := (true, "ece1408ae728d81c59db63f96314c62a824cefc75024462bf4abeedeacb101af"), looks := true }, kinds := [], alts := [], laidByText := true, laidKinds := [.handle], laidTests := true, laidLooks := .later }
def FieldCutCardSaid : Prop := Claim7.holds Tryd.pinned (.plain (OpenSpec.ofChange fieldCutSpec)) fieldCutCard

/-- THE SECOND FORM's CARD OF 'weirkeeplaw01.FieldWrites'. -/
def fieldWritesUptoCard : Claim7 := { stood := { row := fieldWritesUptoRow, standIns := [], harness := (true, "ece1408ae728d81c59db63f96314c62a824cefc75024462bf4abeedeacb101af"), looks := true }, kinds := [], alts := [], laidByText := true, laidKinds := [.handle], laidTests := true, laidLooks := .later }
def FieldWritesUptoCardSaid : Prop := Claim7.holds Tryd.pinned (.plain (OpenSpec.upto fieldWritesSpec)) fieldWritesUptoCard

/-- THE SECOND FORM's CARD OF 'weirkeeplaw01.FieldReads'. -/
def fieldReadsUptoCard : Claim7 := { stood := { row := fieldReadsUptoRow, standIns := [], harness := (true, "ece1408ae728d81c59db63f96314c62a824cefc75024462bf4abeedeacb101af"), looks := true }, kinds := [], alts := [], laidByText := true, laidKinds := [.handle], laidTests := true, laidLooks := .later }
def FieldReadsUptoCardSaid : Prop := Claim7.holds Tryd.pinned (.plain (OpenSpec.upto fieldReadsSpec)) fieldReadsUptoCard

/-- THE SECOND FORM's CARD OF 'weirkeeplaw01.FieldBack'. -/
def fieldBackUptoCard : Claim7 := { stood := { row := fieldBackUptoRow, standIns := [], harness := (true, "ece1408ae728d81c59db63f96314c62a824cefc75024462bf4abeedeacb101af"), looks := true }, kinds := [], alts := [], laidByText := true, laidKinds := [.handle], laidTests := true, laidLooks := .later }
def FieldBackUptoCardSaid : Prop := Claim7.holds Tryd.pinned (.plain (OpenSpec.upto fieldBackSpec)) fieldBackUptoCard

/-- THE SECOND FORM's CARD OF 'weirkeeplaw01.FieldWide'. -/
def fieldWideUptoCard : Claim7 := { stood := { row := fieldWideUptoRow, standIns := [], harness := (true, "ece1408ae728d81c59db63f96314c62a824cefc75024462bf4abeedeacb101af"), looks := true }, kinds := [], alts := [], laidByText := true, laidKinds := [.handle], laidTests := true, laidLooks := .later }
def FieldWideUptoCardSaid : Prop := Claim7.holds Tryd.pinned (.plain (OpenSpec.upto fieldWideSpec)) fieldWideUptoCard

/-- THE SECOND FORM's CARD OF 'weirkeeplaw01.FieldJoined'. -/
def fieldJoinedUptoCard : Claim7 := { stood := { row := fieldJoinedUptoRow, standIns := [], harness := (true, "ece1408ae728d81c59db63f96314c62a824cefc75024462bf4abeedeacb101af"), looks := true }, kinds := [], alts := [], laidByText := true, laidKinds := [.handle], laidTests := true, laidLooks := .later }
def FieldJoinedUptoCardSaid : Prop := Claim7.holds Tryd.pinned (.plain (OpenSpec.upto fieldJoinedSpec)) fieldJoinedUptoCard

/-- THE SECOND FORM's CARD OF 'weirkeeplaw01.FieldCut'. -/
def fieldCutUptoCard : Claim7 := { stood := { row := fieldCutUptoRow, standIns := [], harness := (true, "ece1408ae728d81c59db63f96314c62a824cefc75024462bf4abeedeacb101af"), looks := true }, kinds := [], alts := [], laidByText := true, laidKinds := [.handle], laidTests := true, laidLooks := .later }
def FieldCutUptoCardSaid : Prop := Claim7.holds Tryd.pinned (.plain (OpenSpec.upto fieldCutSpec)) fieldCutUptoCard
end Rows
end Go.Proofs.YtionhkcbobddjaaDoor
