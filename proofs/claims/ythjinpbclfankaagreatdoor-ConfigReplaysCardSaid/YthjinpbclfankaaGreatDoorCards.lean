/-
  DERIVED. GIVEN WITH THE SEED: THE CARDS: each row of YthjinpbclfankaaGreatDoorRows.lean that lists a variable, with what it lists TIED to the program's text (the seventh form; the later family's looks); each row that meets fmt, with fmt's text TOLD by the authors' own Lean function (tested against real Go, not proved from fmt's source: count such statements apart). THE CARD IS WHAT COUNTS. Prove the row's statement (the work); the ties are given (YthjinpbclfankaaGreatDoorTie.lean); close each card by the builder's one call (the guide's Derived/Test/ToyasCard.lean, 'card_holds'). Laid BY PROGRAM, IN A SANDBOX (cutbox-door.mjs). By AI agents, Wed Nov 11 2026. No macro, syntax, notation, axiom, sorry.
-/
import Derived.Test.YthjinpbclfankaaGreatDoorRows
import GoSem.ClaimSeven
namespace Go.Proofs.YthjinpbclfankaaGreatDoor
namespace Rows

/-- THE TIED CARD OF 'weirkeeplaw12.ConfigReplays'. -/
def configReplaysCard : Claim7 := { stood := { row := configReplaysRow, standIns := [], harness := (true, "effe5e6b0db6463173e5cb03b679107f9f5f4d615eccd6ef226f0a109f5ca603"), looks := true }, kinds := [], alts := [], laidByText := true, laidKinds := [.handle], laidTests := true, laidLooks := .later }
def ConfigReplaysCardSaid : Prop := Claim7.holds Tryz.pinned (.plain (OpenSpec.ofChange configReplaysSpec)) configReplaysCard

/-- THE SECOND FORM's CARD OF 'weirkeeplaw12.ConfigReplays'. -/
def configReplaysUptoCard : Claim7 := { stood := { row := configReplaysUptoRow, standIns := [], harness := (true, "effe5e6b0db6463173e5cb03b679107f9f5f4d615eccd6ef226f0a109f5ca603"), looks := true }, kinds := [], alts := [], laidByText := true, laidKinds := [.handle], laidTests := true, laidLooks := .later }
def ConfigReplaysUptoCardSaid : Prop := Claim7.holds Tryz.pinned (.plain (OpenSpec.upto configReplaysSpec)) configReplaysUptoCard
end Rows
end Go.Proofs.YthjinpbclfankaaGreatDoor
