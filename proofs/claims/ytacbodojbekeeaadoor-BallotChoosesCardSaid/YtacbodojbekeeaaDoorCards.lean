/-
  DERIVED. GIVEN WITH THE SEED: THE CARDS: each row of YtacbodojbekeeaaDoorRows.lean that lists a variable, with what it lists TIED to the program's text (the seventh form; the later family's looks); each row that meets fmt, with fmt's text TOLD by the authors' own Lean function (tested against real Go, not proved from fmt's source: count such statements apart). THE CARD IS WHAT COUNTS. Prove the row's statement (the work); the ties are given (YtacbodojbekeeaaDoorTie.lean); close each card by the builder's one call (the guide's Derived/Test/ToyasCard.lean, 'card_holds'). Laid BY PROGRAM, IN A SANDBOX (cutbox-door.mjs). By AI agents, Wed Nov 11 2026. No macro, syntax, notation, axiom, sorry.
-/
import Derived.Test.YtacbodojbekeeaaDoorRows
import GoSem.ClaimSeven
namespace Go.Proofs.YtacbodojbekeeaaDoor
namespace Rows

/-- THE TIED CARD OF 'weirkeeplaw10.BallotScript'. -/
def ballotScriptCard : Claim7 := { stood := { row := ballotScriptRow, standIns := [], harness := (true, "b24e9a8ec71158e312c69a74203aaaad264b2d873552fed6bb3f735e918c73c3"), looks := true }, kinds := [], alts := [], laidByText := true, laidKinds := [.data, .handle], laidTests := true, laidLooks := .later }
def BallotScriptCardSaid : Prop := Claim7.holds Tryd.pinned (.plain (OpenSpec.ofChange ballotScriptSpec)) ballotScriptCard

/-- THE TIED CARD OF 'weirkeeplaw10.BallotLoads'. -/
def ballotLoadsCard : Claim7 := { stood := { row := ballotLoadsRow, standIns := [], harness := (true, "b24e9a8ec71158e312c69a74203aaaad264b2d873552fed6bb3f735e918c73c3"), looks := true }, kinds := [], alts := [], laidByText := true, laidKinds := [.data, .handle], laidTests := true, laidLooks := .later }
def BallotLoadsCardSaid : Prop := Claim7.holds Tryd.pinned (.plain (OpenSpec.ofChange ballotLoadsSpec)) ballotLoadsCard

/-- THE TIED CARD OF 'weirkeeplaw10.BallotNumbers'. -/
def ballotNumbersCard : Claim7 := { stood := { row := ballotNumbersRow, standIns := [], harness := (true, "b24e9a8ec71158e312c69a74203aaaad264b2d873552fed6bb3f735e918c73c3"), looks := true }, kinds := [], alts := [], laidByText := true, laidKinds := [.data, .handle], laidTests := true, laidLooks := .later }
def BallotNumbersCardSaid : Prop := Claim7.holds Tryd.pinned (.plain (OpenSpec.ofChange ballotNumbersSpec)) ballotNumbersCard

/-- THE TIED CARD OF 'weirkeeplaw10.BallotChooses'. -/
def ballotChoosesCard : Claim7 := { stood := { row := ballotChoosesRow, standIns := [], harness := (true, "b24e9a8ec71158e312c69a74203aaaad264b2d873552fed6bb3f735e918c73c3"), looks := true }, kinds := [], alts := [], laidByText := true, laidKinds := [.data, .handle], laidTests := true, laidLooks := .later }
def BallotChoosesCardSaid : Prop := Claim7.holds Tryd.pinned (.plain (OpenSpec.ofChange ballotChoosesSpec)) ballotChoosesCard

/-- THE TIED CARD OF 'weirkeeplaw10.BallotOld'. -/
def ballotOldCard : Claim7 := { stood := { row := ballotOldRow, standIns := [], harness := (true, "b24e9a8ec71158e312c69a74203aaaad264b2d873552fed6bb3f735e918c73c3"), looks := true }, kinds := [], alts := [], laidByText := true, laidKinds := [.data, .handle], laidTests := true, laidLooks := .later }
def BallotOldCardSaid : Prop := Claim7.holds Tryd.pinned (.plain (OpenSpec.ofChange ballotOldSpec)) ballotOldCard

/-- THE TIED CARD OF 'weirkeeplaw10.BallotSaves'. -/
def ballotSavesCard : Claim7 := { stood := { row := ballotSavesRow, standIns := [], harness := (true, "b24e9a8ec71158e312c69a74203aaaad264b2d873552fed6bb3f735e918c73c3"), looks := true }, kinds := [], alts := [], laidByText := true, laidKinds := [.data, .handle], laidTests := true, laidLooks := .later }
def BallotSavesCardSaid : Prop := Claim7.holds Tryd.pinned (.plain (OpenSpec.ofChange ballotSavesSpec)) ballotSavesCard

/-- THE SECOND FORM's CARD OF 'weirkeeplaw10.BallotScript'. -/
def ballotScriptUptoCard : Claim7 := { stood := { row := ballotScriptUptoRow, standIns := [], harness := (true, "b24e9a8ec71158e312c69a74203aaaad264b2d873552fed6bb3f735e918c73c3"), looks := true }, kinds := [], alts := [], laidByText := true, laidKinds := [.data, .handle], laidTests := true, laidLooks := .later }
def BallotScriptUptoCardSaid : Prop := Claim7.holds Tryd.pinned (.plain (OpenSpec.upto ballotScriptSpec)) ballotScriptUptoCard

/-- THE SECOND FORM's CARD OF 'weirkeeplaw10.BallotLoads'. -/
def ballotLoadsUptoCard : Claim7 := { stood := { row := ballotLoadsUptoRow, standIns := [], harness := (true, "b24e9a8ec71158e312c69a74203aaaad264b2d873552fed6bb3f735e918c73c3"), looks := true }, kinds := [], alts := [], laidByText := true, laidKinds := [.data, .handle], laidTests := true, laidLooks := .later }
def BallotLoadsUptoCardSaid : Prop := Claim7.holds Tryd.pinned (.plain (OpenSpec.upto ballotLoadsSpec)) ballotLoadsUptoCard

/-- THE SECOND FORM's CARD OF 'weirkeeplaw10.BallotNumbers'. -/
def ballotNumbersUptoCard : Claim7 := { stood := { row := ballotNumbersUptoRow, standIns := [], harness := (true, "b24e9a8ec71158e312c69a74203aaaad264b2d873552fed6bb3f735e918c73c3"), looks := true }, kinds := [], alts := [], laidByText := true, laidKinds := [.data, .handle], laidTests := true, laidLooks := .later }
def BallotNumbersUptoCardSaid : Prop := Claim7.holds Tryd.pinned (.plain (OpenSpec.upto ballotNumbersSpec)) ballotNumbersUptoCard

/-- THE SECOND FORM's CARD OF 'weirkeeplaw10.BallotChooses'. -/
def ballotChoosesUptoCard : Claim7 := { stood := { row := ballotChoosesUptoRow, standIns := [], harness := (true, "b24e9a8ec71158e312c69a74203aaaad264b2d873552fed6bb3f735e918c73c3"), looks := true }, kinds := [], alts := [], laidByText := true, laidKinds := [.data, .handle], laidTests := true, laidLooks := .later }
def BallotChoosesUptoCardSaid : Prop := Claim7.holds Tryd.pinned (.plain (OpenSpec.upto ballotChoosesSpec)) ballotChoosesUptoCard

/-- THE SECOND FORM's CARD OF 'weirkeeplaw10.BallotOld'. -/
def ballotOldUptoCard : Claim7 := { stood := { row := ballotOldUptoRow, standIns := [], harness := (true, "b24e9a8ec71158e312c69a74203aaaad264b2d873552fed6bb3f735e918c73c3"), looks := true }, kinds := [], alts := [], laidByText := true, laidKinds := [.data, .handle], laidTests := true, laidLooks := .later }
def BallotOldUptoCardSaid : Prop := Claim7.holds Tryd.pinned (.plain (OpenSpec.upto ballotOldSpec)) ballotOldUptoCard

/-- THE SECOND FORM's CARD OF 'weirkeeplaw10.BallotSaves'. -/
def ballotSavesUptoCard : Claim7 := { stood := { row := ballotSavesUptoRow, standIns := [], harness := (true, "b24e9a8ec71158e312c69a74203aaaad264b2d873552fed6bb3f735e918c73c3"), looks := true }, kinds := [], alts := [], laidByText := true, laidKinds := [.data, .handle], laidTests := true, laidLooks := .later }
def BallotSavesUptoCardSaid : Prop := Claim7.holds Tryd.pinned (.plain (OpenSpec.upto ballotSavesSpec)) ballotSavesUptoCard
end Rows
end Go.Proofs.YtacbodojbekeeaaDoor
