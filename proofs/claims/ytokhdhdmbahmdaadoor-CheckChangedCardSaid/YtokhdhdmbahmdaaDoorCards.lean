/-
  DERIVED. GIVEN WITH THE SEED: THE CARDS: each row of YtokhdhdmbahmdaaDoorRows.lean that lists a variable, with what it lists TIED to the program's text (the seventh form; the later family's looks); each row that meets fmt, with fmt's text TOLD by the authors' own Lean function (tested against real Go, not proved from fmt's source: count such statements apart). THE CARD IS WHAT COUNTS. Prove the row's statement (the work); the ties are given (YtokhdhdmbahmdaaDoorTie.lean); close each card by the builder's one call (the guide's Derived/Test/ToyasCard.lean, 'card_holds'). Laid BY PROGRAM, IN A SANDBOX (cutbox-door.mjs). By AI agents, Wed Nov 11 2026. No macro, syntax, notation, axiom, sorry.
-/
import Derived.Test.YtokhdhdmbahmdaaDoorRows
import GoSem.ClaimSeven
namespace Go.Proofs.YtokhdhdmbahmdaaDoor
namespace Rows

/-- THE TIED CARD OF 'weirkeeplaw02.CheckSums'. -/
def checkSumsCard : Claim7 := { stood := { row := checkSumsRow, standIns := [], harness := (true, "5a7f12fb962d2083044a3f1dd97ca4c872fc158b17b2ce16ac68c13c8346fe42"), looks := false }, kinds := [], alts := [], laidByText := true, laidKinds := [.data], laidTests := true, laidLooks := .later }
def CheckSumsCardSaid : Prop := Claim7.holds Tryd.pinned (.plain (OpenSpec.ofChange checkSumsSpec)) checkSumsCard

/-- THE TIED CARD OF 'weirkeeplaw02.CheckBack'. -/
def checkBackCard : Claim7 := { stood := { row := checkBackRow, standIns := [], harness := (true, "5a7f12fb962d2083044a3f1dd97ca4c872fc158b17b2ce16ac68c13c8346fe42"), looks := false }, kinds := [], alts := [], laidByText := true, laidKinds := [.data], laidTests := true, laidLooks := .later }
def CheckBackCardSaid : Prop := Claim7.holds Tryd.pinned (.plain (OpenSpec.ofChange checkBackSpec)) checkBackCard

/-- THE TIED CARD OF 'weirkeeplaw02.CheckChanged'. -/
def checkChangedCard : Claim7 := { stood := { row := checkChangedRow, standIns := [], harness := (true, "5a7f12fb962d2083044a3f1dd97ca4c872fc158b17b2ce16ac68c13c8346fe42"), looks := false }, kinds := [], alts := [], laidByText := true, laidKinds := [.data], laidTests := true, laidLooks := .later }
def CheckChangedCardSaid : Prop := Claim7.holds Tryd.pinned (.plain (OpenSpec.ofChange checkChangedSpec)) checkChangedCard

/-- THE TIED CARD OF 'weirkeeplaw02.CheckApart'. -/
def checkApartCard : Claim7 := { stood := { row := checkApartRow, standIns := [], harness := (true, "5a7f12fb962d2083044a3f1dd97ca4c872fc158b17b2ce16ac68c13c8346fe42"), looks := false }, kinds := [], alts := [], laidByText := true, laidKinds := [.data], laidTests := true, laidLooks := .later }
def CheckApartCardSaid : Prop := Claim7.holds Tryd.pinned (.plain (OpenSpec.ofChange checkApartSpec)) checkApartCard

/-- THE TIED CARD OF 'weirkeeplaw02.CheckTwice'. -/
def checkTwiceCard : Claim7 := { stood := { row := checkTwiceRow, standIns := [], harness := (true, "5a7f12fb962d2083044a3f1dd97ca4c872fc158b17b2ce16ac68c13c8346fe42"), looks := false }, kinds := [], alts := [], laidByText := true, laidKinds := [.data], laidTests := true, laidLooks := .later }
def CheckTwiceCardSaid : Prop := Claim7.holds Tryd.pinned (.plain (OpenSpec.ofChange checkTwiceSpec)) checkTwiceCard

/-- THE TIED CARD OF 'weirkeeplaw02.CheckShort'. -/
def checkShortCard : Claim7 := { stood := { row := checkShortRow, standIns := [], harness := (true, "5a7f12fb962d2083044a3f1dd97ca4c872fc158b17b2ce16ac68c13c8346fe42"), looks := false }, kinds := [], alts := [], laidByText := true, laidKinds := [.data], laidTests := true, laidLooks := .later }
def CheckShortCardSaid : Prop := Claim7.holds Tryd.pinned (.plain (OpenSpec.ofChange checkShortSpec)) checkShortCard

/-- THE SECOND FORM's CARD OF 'weirkeeplaw02.CheckSums'. -/
def checkSumsUptoCard : Claim7 := { stood := { row := checkSumsUptoRow, standIns := [], harness := (true, "5a7f12fb962d2083044a3f1dd97ca4c872fc158b17b2ce16ac68c13c8346fe42"), looks := false }, kinds := [], alts := [], laidByText := true, laidKinds := [.data], laidTests := true, laidLooks := .later }
def CheckSumsUptoCardSaid : Prop := Claim7.holds Tryd.pinned (.plain (OpenSpec.upto checkSumsSpec)) checkSumsUptoCard

/-- THE SECOND FORM's CARD OF 'weirkeeplaw02.CheckBack'. -/
def checkBackUptoCard : Claim7 := { stood := { row := checkBackUptoRow, standIns := [], harness := (true, "5a7f12fb962d2083044a3f1dd97ca4c872fc158b17b2ce16ac68c13c8346fe42"), looks := false }, kinds := [], alts := [], laidByText := true, laidKinds := [.data], laidTests := true, laidLooks := .later }
def CheckBackUptoCardSaid : Prop := Claim7.holds Tryd.pinned (.plain (OpenSpec.upto checkBackSpec)) checkBackUptoCard

/-- THE SECOND FORM's CARD OF 'weirkeeplaw02.CheckChanged'. -/
def checkChangedUptoCard : Claim7 := { stood := { row := checkChangedUptoRow, standIns := [], harness := (true, "5a7f12fb962d2083044a3f1dd97ca4c872fc158b17b2ce16ac68c13c8346fe42"), looks := false }, kinds := [], alts := [], laidByText := true, laidKinds := [.data], laidTests := true, laidLooks := .later }
def CheckChangedUptoCardSaid : Prop := Claim7.holds Tryd.pinned (.plain (OpenSpec.upto checkChangedSpec)) checkChangedUptoCard

/-- THE SECOND FORM's CARD OF 'weirkeeplaw02.CheckApart'. -/
def checkApartUptoCard : Claim7 := { stood := { row := checkApartUptoRow, standIns := [], harness := (true, "5a7f12fb962d2083044a3f1dd97ca4c872fc158b17b2ce16ac68c13c8346fe42"), looks := false }, kinds := [], alts := [], laidByText := true, laidKinds := [.data], laidTests := true, laidLooks := .later }
def CheckApartUptoCardSaid : Prop := Claim7.holds Tryd.pinned (.plain (OpenSpec.upto checkApartSpec)) checkApartUptoCard

/-- THE SECOND FORM's CARD OF 'weirkeeplaw02.CheckTwice'. -/
def checkTwiceUptoCard : Claim7 := { stood := { row := checkTwiceUptoRow, standIns := [], harness := (true, "5a7f12fb962d2083044a3f1dd97ca4c872fc158b17b2ce16ac68c13c8346fe42"), looks := false }, kinds := [], alts := [], laidByText := true, laidKinds := [.data], laidTests := true, laidLooks := .later }
def CheckTwiceUptoCardSaid : Prop := Claim7.holds Tryd.pinned (.plain (OpenSpec.upto checkTwiceSpec)) checkTwiceUptoCard

/-- THE SECOND FORM's CARD OF 'weirkeeplaw02.CheckShort'. -/
def checkShortUptoCard : Claim7 := { stood := { row := checkShortUptoRow, standIns := [], harness := (true, "5a7f12fb962d2083044a3f1dd97ca4c872fc158b17b2ce16ac68c13c8346fe42"), looks := false }, kinds := [], alts := [], laidByText := true, laidKinds := [.data], laidTests := true, laidLooks := .later }
def CheckShortUptoCardSaid : Prop := Claim7.holds Tryd.pinned (.plain (OpenSpec.upto checkShortSpec)) checkShortUptoCard
end Rows
end Go.Proofs.YtokhdhdmbahmdaaDoor
