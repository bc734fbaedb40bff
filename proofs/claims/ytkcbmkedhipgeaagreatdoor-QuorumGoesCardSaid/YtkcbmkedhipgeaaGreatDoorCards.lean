/-
  DERIVED. GIVEN WITH THE SEED: THE CARDS: each row of YtkcbmkedhipgeaaGreatDoorRows.lean that lists a variable, with what it lists TIED to the program's text (the seventh form; the later family's looks); each row that meets fmt, with fmt's text TOLD by the authors' own Lean function (tested against real Go, not proved from fmt's source: count such statements apart). THE CARD IS WHAT COUNTS. Prove the row's statement (the work); the ties are given (YtkcbmkedhipgeaaGreatDoorTie.lean); close each card by the builder's one call (the guide's Derived/Test/ToyasCard.lean, 'card_holds'). Laid BY PROGRAM, IN A SANDBOX (cutbox-door.mjs). By AI agents, Wed Nov 11 2026. No macro, syntax, notation, axiom, sorry.
-/
import Derived.Test.YtkcbmkedhipgeaaGreatDoorRows
import GoSem.ClaimSeven
namespace Go.Proofs.YtkcbmkedhipgeaaGreatDoor
namespace Rows

/-- THE TIED CARD OF 'weirkeeplaw11.QuorumScript'. -/
def quorumScriptCard : Claim7 := { stood := { row := quorumScriptRow, standIns := [], harness := (true, "f4b9d5dd71c2fc86b32586d3d2c838049d2ea037dfbf058ac0e7acb318ce8985"), looks := true }, kinds := [], alts := [], laidByText := true, laidKinds := [.data, .handle], laidTests := true, laidLooks := .later }
def QuorumScriptCardSaid : Prop := Claim7.holds Tryz.pinned (.plain (OpenSpec.ofChange quorumScriptSpec)) quorumScriptCard

/-- THE TIED CARD OF 'weirkeeplaw11.QuorumOne'. -/
def quorumOneCard : Claim7 := { stood := { row := quorumOneRow, standIns := [], harness := (true, "f4b9d5dd71c2fc86b32586d3d2c838049d2ea037dfbf058ac0e7acb318ce8985"), looks := true }, kinds := [], alts := [], laidByText := true, laidKinds := [.data, .handle], laidTests := true, laidLooks := .later }
def QuorumOneCardSaid : Prop := Claim7.holds Tryz.pinned (.plain (OpenSpec.ofChange quorumOneSpec)) quorumOneCard

/-- THE TIED CARD OF 'weirkeeplaw11.QuorumGoes'. -/
def quorumGoesCard : Claim7 := { stood := { row := quorumGoesRow, standIns := [], harness := (true, "f4b9d5dd71c2fc86b32586d3d2c838049d2ea037dfbf058ac0e7acb318ce8985"), looks := true }, kinds := [], alts := [], laidByText := true, laidKinds := [.data, .handle], laidTests := true, laidLooks := .later }
def QuorumGoesCardSaid : Prop := Claim7.holds Tryz.pinned (.plain (OpenSpec.ofChange quorumGoesSpec)) quorumGoesCard

/-- THE TIED CARD OF 'weirkeeplaw11.QuorumMinority'. -/
def quorumMinorityCard : Claim7 := { stood := { row := quorumMinorityRow, standIns := [], harness := (true, "f4b9d5dd71c2fc86b32586d3d2c838049d2ea037dfbf058ac0e7acb318ce8985"), looks := true }, kinds := [], alts := [], laidByText := true, laidKinds := [.data, .handle], laidTests := true, laidLooks := .later }
def QuorumMinorityCardSaid : Prop := Claim7.holds Tryz.pinned (.plain (OpenSpec.ofChange quorumMinoritySpec)) quorumMinorityCard

/-- THE TIED CARD OF 'weirkeeplaw11.QuorumLearns'. -/
def quorumLearnsCard : Claim7 := { stood := { row := quorumLearnsRow, standIns := [], harness := (true, "f4b9d5dd71c2fc86b32586d3d2c838049d2ea037dfbf058ac0e7acb318ce8985"), looks := true }, kinds := [], alts := [], laidByText := true, laidKinds := [.data, .handle], laidTests := true, laidLooks := .later }
def QuorumLearnsCardSaid : Prop := Claim7.holds Tryz.pinned (.plain (OpenSpec.ofChange quorumLearnsSpec)) quorumLearnsCard

/-- THE TIED CARD OF 'weirkeeplaw11.QuorumDown'. -/
def quorumDownCard : Claim7 := { stood := { row := quorumDownRow, standIns := [], harness := (true, "f4b9d5dd71c2fc86b32586d3d2c838049d2ea037dfbf058ac0e7acb318ce8985"), looks := true }, kinds := [], alts := [], laidByText := true, laidKinds := [.data, .handle], laidTests := true, laidLooks := .later }
def QuorumDownCardSaid : Prop := Claim7.holds Tryz.pinned (.plain (OpenSpec.ofChange quorumDownSpec)) quorumDownCard

/-- THE SECOND FORM's CARD OF 'weirkeeplaw11.QuorumScript'. -/
def quorumScriptUptoCard : Claim7 := { stood := { row := quorumScriptUptoRow, standIns := [], harness := (true, "f4b9d5dd71c2fc86b32586d3d2c838049d2ea037dfbf058ac0e7acb318ce8985"), looks := true }, kinds := [], alts := [], laidByText := true, laidKinds := [.data, .handle], laidTests := true, laidLooks := .later }
def QuorumScriptUptoCardSaid : Prop := Claim7.holds Tryz.pinned (.plain (OpenSpec.upto quorumScriptSpec)) quorumScriptUptoCard

/-- THE SECOND FORM's CARD OF 'weirkeeplaw11.QuorumOne'. -/
def quorumOneUptoCard : Claim7 := { stood := { row := quorumOneUptoRow, standIns := [], harness := (true, "f4b9d5dd71c2fc86b32586d3d2c838049d2ea037dfbf058ac0e7acb318ce8985"), looks := true }, kinds := [], alts := [], laidByText := true, laidKinds := [.data, .handle], laidTests := true, laidLooks := .later }
def QuorumOneUptoCardSaid : Prop := Claim7.holds Tryz.pinned (.plain (OpenSpec.upto quorumOneSpec)) quorumOneUptoCard

/-- THE SECOND FORM's CARD OF 'weirkeeplaw11.QuorumGoes'. -/
def quorumGoesUptoCard : Claim7 := { stood := { row := quorumGoesUptoRow, standIns := [], harness := (true, "f4b9d5dd71c2fc86b32586d3d2c838049d2ea037dfbf058ac0e7acb318ce8985"), looks := true }, kinds := [], alts := [], laidByText := true, laidKinds := [.data, .handle], laidTests := true, laidLooks := .later }
def QuorumGoesUptoCardSaid : Prop := Claim7.holds Tryz.pinned (.plain (OpenSpec.upto quorumGoesSpec)) quorumGoesUptoCard

/-- THE SECOND FORM's CARD OF 'weirkeeplaw11.QuorumMinority'. -/
def quorumMinorityUptoCard : Claim7 := { stood := { row := quorumMinorityUptoRow, standIns := [], harness := (true, "f4b9d5dd71c2fc86b32586d3d2c838049d2ea037dfbf058ac0e7acb318ce8985"), looks := true }, kinds := [], alts := [], laidByText := true, laidKinds := [.data, .handle], laidTests := true, laidLooks := .later }
def QuorumMinorityUptoCardSaid : Prop := Claim7.holds Tryz.pinned (.plain (OpenSpec.upto quorumMinoritySpec)) quorumMinorityUptoCard

/-- THE SECOND FORM's CARD OF 'weirkeeplaw11.QuorumLearns'. -/
def quorumLearnsUptoCard : Claim7 := { stood := { row := quorumLearnsUptoRow, standIns := [], harness := (true, "f4b9d5dd71c2fc86b32586d3d2c838049d2ea037dfbf058ac0e7acb318ce8985"), looks := true }, kinds := [], alts := [], laidByText := true, laidKinds := [.data, .handle], laidTests := true, laidLooks := .later }
def QuorumLearnsUptoCardSaid : Prop := Claim7.holds Tryz.pinned (.plain (OpenSpec.upto quorumLearnsSpec)) quorumLearnsUptoCard

/-- THE SECOND FORM's CARD OF 'weirkeeplaw11.QuorumDown'. -/
def quorumDownUptoCard : Claim7 := { stood := { row := quorumDownUptoRow, standIns := [], harness := (true, "f4b9d5dd71c2fc86b32586d3d2c838049d2ea037dfbf058ac0e7acb318ce8985"), looks := true }, kinds := [], alts := [], laidByText := true, laidKinds := [.data, .handle], laidTests := true, laidLooks := .later }
def QuorumDownUptoCardSaid : Prop := Claim7.holds Tryz.pinned (.plain (OpenSpec.upto quorumDownSpec)) quorumDownUptoCard
end Rows
end Go.Proofs.YtkcbmkedhipgeaaGreatDoor
