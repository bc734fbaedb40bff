/-
  DERIVED. GIVEN WITH THE SEED: THE CARDS: each row of YtacdbfaoeioflaaDoorRows.lean that lists a variable, with what it lists TIED to the program's text (the seventh form; the later family's looks); each row that meets fmt, with fmt's text TOLD by the authors' own Lean function (tested against real Go, not proved from fmt's source: count such statements apart). THE CARD IS WHAT COUNTS. Prove the row's statement (the work); the ties are given (YtacdbfaoeioflaaDoorTie.lean); close each card by the builder's one call (the guide's Derived/Test/ToyasCard.lean, 'card_holds'). Laid BY PROGRAM, IN A SANDBOX (cutbox-door.mjs). By AI agents, Wed Nov 11 2026. No macro, syntax, notation, axiom, sorry.
-/
import Derived.Test.YtacdbfaoeioflaaDoorRows
import GoSem.ClaimSeven
namespace Go.Proofs.YtacdbfaoeioflaaDoor
namespace Rows

/-- THE TIED CARD OF 'weirkeeplaw09.ShelfRecords'. -/
def shelfRecordsCard : Claim7 := { stood := { row := shelfRecordsRow, standIns := [], harness := (true, "4efd3bfa203d8a1dabb32dc7ea4110f0eb31e3bda95a8272e59fc137a6c9e86e"), looks := true }, kinds := [], alts := [], laidByText := true, laidKinds := [.data], laidTests := true, laidLooks := .later }
def ShelfRecordsCardSaid : Prop := Claim7.holds Tryd.pinned (.plain (OpenSpec.ofChange shelfRecordsSpec)) shelfRecordsCard

/-- THE TIED CARD OF 'weirkeeplaw09.ShelfSpoilt'. -/
def shelfSpoiltCard : Claim7 := { stood := { row := shelfSpoiltRow, standIns := [], harness := (true, "4efd3bfa203d8a1dabb32dc7ea4110f0eb31e3bda95a8272e59fc137a6c9e86e"), looks := true }, kinds := [], alts := [], laidByText := true, laidKinds := [.data], laidTests := true, laidLooks := .later }
def ShelfSpoiltCardSaid : Prop := Claim7.holds Tryd.pinned (.plain (OpenSpec.ofChange shelfSpoiltSpec)) shelfSpoiltCard

/-- THE SECOND FORM's CARD OF 'weirkeeplaw09.ShelfRecords'. -/
def shelfRecordsUptoCard : Claim7 := { stood := { row := shelfRecordsUptoRow, standIns := [], harness := (true, "4efd3bfa203d8a1dabb32dc7ea4110f0eb31e3bda95a8272e59fc137a6c9e86e"), looks := true }, kinds := [], alts := [], laidByText := true, laidKinds := [.data], laidTests := true, laidLooks := .later }
def ShelfRecordsUptoCardSaid : Prop := Claim7.holds Tryd.pinned (.plain (OpenSpec.upto shelfRecordsSpec)) shelfRecordsUptoCard

/-- THE SECOND FORM's CARD OF 'weirkeeplaw09.ShelfSpoilt'. -/
def shelfSpoiltUptoCard : Claim7 := { stood := { row := shelfSpoiltUptoRow, standIns := [], harness := (true, "4efd3bfa203d8a1dabb32dc7ea4110f0eb31e3bda95a8272e59fc137a6c9e86e"), looks := true }, kinds := [], alts := [], laidByText := true, laidKinds := [.data], laidTests := true, laidLooks := .later }
def ShelfSpoiltUptoCardSaid : Prop := Claim7.holds Tryd.pinned (.plain (OpenSpec.upto shelfSpoiltSpec)) shelfSpoiltUptoCard
end Rows
end Go.Proofs.YtacdbfaoeioflaaDoor
