/-
  DERIVED. GIVEN WITH THE SEED: THE CARDS: each row of YtmmpknfkncgjpaaGreatDoorRows.lean that lists a variable, with what it lists TIED to the program's text (the seventh form; the later family's looks); each row that meets fmt, with fmt's text TOLD by the authors' own Lean function (tested against real Go, not proved from fmt's source: count such statements apart). THE CARD IS WHAT COUNTS. Prove the row's statement (the work); the ties are given (YtmmpknfkncgjpaaGreatDoorTie.lean); close each card by the builder's one call (the guide's Derived/Test/ToyasCard.lean, 'card_holds'). Laid BY PROGRAM, IN A SANDBOX (cutbox-door.mjs). By AI agents, Wed Nov 11 2026. No macro, syntax, notation, axiom, sorry.
-/
import Derived.Test.YtmmpknfkncgjpaaGreatDoorRows
import GoSem.ClaimSeven
namespace Go.Proofs.YtmmpknfkncgjpaaGreatDoor
namespace Rows

/-- THE TIED CARD OF 'weirkeeplaw13.StoreScript'. -/
def storeScriptCard : Claim7 := { stood := { row := storeScriptRow, standIns := [], harness := (true, "b55a0d8e1d1071e1052f658bfb866e6a2b5221dcb41bf24ada325fdc9216a5ed"), looks := true }, kinds := [], alts := [], laidByText := true, laidKinds := [.data, .handle], laidTests := true, laidLooks := .later }
def StoreScriptCardSaid : Prop := Claim7.holds Tryz.pinned (.plain (OpenSpec.ofChange storeScriptSpec)) storeScriptCard

/-- THE TIED CARD OF 'weirkeeplaw13.StoreValues'. -/
def storeValuesCard : Claim7 := { stood := { row := storeValuesRow, standIns := [], harness := (true, "b55a0d8e1d1071e1052f658bfb866e6a2b5221dcb41bf24ada325fdc9216a5ed"), looks := true }, kinds := [], alts := [], laidByText := true, laidKinds := [.data, .handle], laidTests := true, laidLooks := .later }
def StoreValuesCardSaid : Prop := Claim7.holds Tryz.pinned (.plain (OpenSpec.ofChange storeValuesSpec)) storeValuesCard

/-- THE TIED CARD OF 'weirkeeplaw13.StoreTwice'. -/
def storeTwiceCard : Claim7 := { stood := { row := storeTwiceRow, standIns := [], harness := (true, "b55a0d8e1d1071e1052f658bfb866e6a2b5221dcb41bf24ada325fdc9216a5ed"), looks := true }, kinds := [], alts := [], laidByText := true, laidKinds := [.data, .handle], laidTests := true, laidLooks := .later }
def StoreTwiceCardSaid : Prop := Claim7.holds Tryz.pinned (.plain (OpenSpec.ofChange storeTwiceSpec)) storeTwiceCard

/-- THE TIED CARD OF 'weirkeeplaw13.StoreLasts'. -/
def storeLastsCard : Claim7 := { stood := { row := storeLastsRow, standIns := [], harness := (true, "b55a0d8e1d1071e1052f658bfb866e6a2b5221dcb41bf24ada325fdc9216a5ed"), looks := true }, kinds := [], alts := [], laidByText := true, laidKinds := [.data, .handle], laidTests := true, laidLooks := .later }
def StoreLastsCardSaid : Prop := Claim7.holds Tryz.pinned (.plain (OpenSpec.ofChange storeLastsSpec)) storeLastsCard

/-- THE TIED CARD OF 'weirkeeplaw13.StoreFences'. -/
def storeFencesCard : Claim7 := { stood := { row := storeFencesRow, standIns := [], harness := (true, "b55a0d8e1d1071e1052f658bfb866e6a2b5221dcb41bf24ada325fdc9216a5ed"), looks := true }, kinds := [], alts := [], laidByText := true, laidKinds := [.data, .handle], laidTests := true, laidLooks := .later }
def StoreFencesCardSaid : Prop := Claim7.holds Tryz.pinned (.plain (OpenSpec.ofChange storeFencesSpec)) storeFencesCard

/-- THE TIED CARD OF 'weirkeeplaw13.StoreReads'. -/
def storeReadsCard : Claim7 := { stood := { row := storeReadsRow, standIns := [], harness := (true, "b55a0d8e1d1071e1052f658bfb866e6a2b5221dcb41bf24ada325fdc9216a5ed"), looks := true }, kinds := [], alts := [], laidByText := true, laidKinds := [.data, .handle], laidTests := true, laidLooks := .later }
def StoreReadsCardSaid : Prop := Claim7.holds Tryz.pinned (.plain (OpenSpec.ofChange storeReadsSpec)) storeReadsCard

/-- THE TIED CARD OF 'weirkeeplaw13.StoreEpochs'. -/
def storeEpochsCard : Claim7 := { stood := { row := storeEpochsRow, standIns := [], harness := (true, "b55a0d8e1d1071e1052f658bfb866e6a2b5221dcb41bf24ada325fdc9216a5ed"), looks := true }, kinds := [], alts := [], laidByText := true, laidKinds := [.data, .handle], laidTests := true, laidLooks := .later }
def StoreEpochsCardSaid : Prop := Claim7.holds Tryz.pinned (.plain (OpenSpec.ofChange storeEpochsSpec)) storeEpochsCard

/-- THE SECOND FORM's CARD OF 'weirkeeplaw13.StoreScript'. -/
def storeScriptUptoCard : Claim7 := { stood := { row := storeScriptUptoRow, standIns := [], harness := (true, "b55a0d8e1d1071e1052f658bfb866e6a2b5221dcb41bf24ada325fdc9216a5ed"), looks := true }, kinds := [], alts := [], laidByText := true, laidKinds := [.data, .handle], laidTests := true, laidLooks := .later }
def StoreScriptUptoCardSaid : Prop := Claim7.holds Tryz.pinned (.plain (OpenSpec.upto storeScriptSpec)) storeScriptUptoCard

/-- THE SECOND FORM's CARD OF 'weirkeeplaw13.StoreValues'. -/
def storeValuesUptoCard : Claim7 := { stood := { row := storeValuesUptoRow, standIns := [], harness := (true, "b55a0d8e1d1071e1052f658bfb866e6a2b5221dcb41bf24ada325fdc9216a5ed"), looks := true }, kinds := [], alts := [], laidByText := true, laidKinds := [.data, .handle], laidTests := true, laidLooks := .later }
def StoreValuesUptoCardSaid : Prop := Claim7.holds Tryz.pinned (.plain (OpenSpec.upto storeValuesSpec)) storeValuesUptoCard

/-- THE SECOND FORM's CARD OF 'weirkeeplaw13.StoreTwice'. -/
def storeTwiceUptoCard : Claim7 := { stood := { row := storeTwiceUptoRow, standIns := [], harness := (true, "b55a0d8e1d1071e1052f658bfb866e6a2b5221dcb41bf24ada325fdc9216a5ed"), looks := true }, kinds := [], alts := [], laidByText := true, laidKinds := [.data, .handle], laidTests := true, laidLooks := .later }
def StoreTwiceUptoCardSaid : Prop := Claim7.holds Tryz.pinned (.plain (OpenSpec.upto storeTwiceSpec)) storeTwiceUptoCard

/-- THE SECOND FORM's CARD OF 'weirkeeplaw13.StoreLasts'. -/
def storeLastsUptoCard : Claim7 := { stood := { row := storeLastsUptoRow, standIns := [], harness := (true, "b55a0d8e1d1071e1052f658bfb866e6a2b5221dcb41bf24ada325fdc9216a5ed"), looks := true }, kinds := [], alts := [], laidByText := true, laidKinds := [.data, .handle], laidTests := true, laidLooks := .later }
def StoreLastsUptoCardSaid : Prop := Claim7.holds Tryz.pinned (.plain (OpenSpec.upto storeLastsSpec)) storeLastsUptoCard

/-- THE SECOND FORM's CARD OF 'weirkeeplaw13.StoreFences'. -/
def storeFencesUptoCard : Claim7 := { stood := { row := storeFencesUptoRow, standIns := [], harness := (true, "b55a0d8e1d1071e1052f658bfb866e6a2b5221dcb41bf24ada325fdc9216a5ed"), looks := true }, kinds := [], alts := [], laidByText := true, laidKinds := [.data, .handle], laidTests := true, laidLooks := .later }
def StoreFencesUptoCardSaid : Prop := Claim7.holds Tryz.pinned (.plain (OpenSpec.upto storeFencesSpec)) storeFencesUptoCard

/-- THE SECOND FORM's CARD OF 'weirkeeplaw13.StoreReads'. -/
def storeReadsUptoCard : Claim7 := { stood := { row := storeReadsUptoRow, standIns := [], harness := (true, "b55a0d8e1d1071e1052f658bfb866e6a2b5221dcb41bf24ada325fdc9216a5ed"), looks := true }, kinds := [], alts := [], laidByText := true, laidKinds := [.data, .handle], laidTests := true, laidLooks := .later }
def StoreReadsUptoCardSaid : Prop := Claim7.holds Tryz.pinned (.plain (OpenSpec.upto storeReadsSpec)) storeReadsUptoCard

/-- THE SECOND FORM's CARD OF 'weirkeeplaw13.StoreEpochs'. -/
def storeEpochsUptoCard : Claim7 := { stood := { row := storeEpochsUptoRow, standIns := [], harness := (true, "b55a0d8e1d1071e1052f658bfb866e6a2b5221dcb41bf24ada325fdc9216a5ed"), looks := true }, kinds := [], alts := [], laidByText := true, laidKinds := [.data, .handle], laidTests := true, laidLooks := .later }
def StoreEpochsUptoCardSaid : Prop := Claim7.holds Tryz.pinned (.plain (OpenSpec.upto storeEpochsSpec)) storeEpochsUptoCard
end Rows
end Go.Proofs.YtmmpknfkncgjpaaGreatDoor
