/-
  DERIVED. GIVEN WITH THE SEED: THE CARDS: each row of YtacdbfaoeioflaaGreatDoorRows.lean that lists a variable, with what it lists TIED to the program's text (the seventh form; the later family's looks); each row that meets fmt, with fmt's text TOLD by the authors' own Lean function (tested against real Go, not proved from fmt's source: count such statements apart). THE CARD IS WHAT COUNTS. Prove the row's statement (the work); the ties are given (YtacdbfaoeioflaaGreatDoorTie.lean); close each card by the builder's one call (the guide's Derived/Test/ToyasCard.lean, 'card_holds'). Laid BY PROGRAM, IN A SANDBOX (cutbox-door.mjs). By AI agents, Wed Nov 11 2026. No macro, syntax, notation, axiom, sorry.
-/
import Derived.Test.YtacdbfaoeioflaaGreatDoorRows
import GoSem.ClaimSeven
namespace Go.Proofs.YtacdbfaoeioflaaGreatDoor
namespace Rows

/-- THE TIED CARD OF 'weirkeeplaw09.ShelfScript'. -/
def shelfScriptCard : Claim7 := { stood := { row := shelfScriptRow, standIns := [], harness := (true, "817d0f5068afed408496b82788b1fc0dae688fe8ba60ca94d936d1955564cfab"), looks := true }, kinds := [], alts := [], laidByText := true, laidKinds := [.data], laidTests := true, laidLooks := .later }
def ShelfScriptCardSaid : Prop := Claim7.holds Tryz.pinned (.plain (OpenSpec.ofChange shelfScriptSpec)) shelfScriptCard

/-- THE TIED CARD OF 'weirkeeplaw09.ShelfCuts'. -/
def shelfCutsCard : Claim7 := { stood := { row := shelfCutsRow, standIns := [], harness := (true, "817d0f5068afed408496b82788b1fc0dae688fe8ba60ca94d936d1955564cfab"), looks := true }, kinds := [], alts := [], laidByText := true, laidKinds := [.data], laidTests := true, laidLooks := .later }
def ShelfCutsCardSaid : Prop := Claim7.holds Tryz.pinned (.plain (OpenSpec.ofChange shelfCutsSpec)) shelfCutsCard

/-- THE TIED CARD OF 'weirkeeplaw09.ShelfVersions'. -/
def shelfVersionsCard : Claim7 := { stood := { row := shelfVersionsRow, standIns := [], harness := (true, "817d0f5068afed408496b82788b1fc0dae688fe8ba60ca94d936d1955564cfab"), looks := true }, kinds := [], alts := [], laidByText := true, laidKinds := [.data], laidTests := true, laidLooks := .later }
def ShelfVersionsCardSaid : Prop := Claim7.holds Tryz.pinned (.plain (OpenSpec.ofChange shelfVersionsSpec)) shelfVersionsCard

/-- THE TIED CARD OF 'weirkeeplaw09.ShelfDrops'. -/
def shelfDropsCard : Claim7 := { stood := { row := shelfDropsRow, standIns := [], harness := (true, "817d0f5068afed408496b82788b1fc0dae688fe8ba60ca94d936d1955564cfab"), looks := true }, kinds := [], alts := [], laidByText := true, laidKinds := [.data], laidTests := true, laidLooks := .later }
def ShelfDropsCardSaid : Prop := Claim7.holds Tryz.pinned (.plain (OpenSpec.ofChange shelfDropsSpec)) shelfDropsCard

/-- THE SECOND FORM's CARD OF 'weirkeeplaw09.ShelfScript'. -/
def shelfScriptUptoCard : Claim7 := { stood := { row := shelfScriptUptoRow, standIns := [], harness := (true, "817d0f5068afed408496b82788b1fc0dae688fe8ba60ca94d936d1955564cfab"), looks := true }, kinds := [], alts := [], laidByText := true, laidKinds := [.data], laidTests := true, laidLooks := .later }
def ShelfScriptUptoCardSaid : Prop := Claim7.holds Tryz.pinned (.plain (OpenSpec.upto shelfScriptSpec)) shelfScriptUptoCard

/-- THE SECOND FORM's CARD OF 'weirkeeplaw09.ShelfCuts'. -/
def shelfCutsUptoCard : Claim7 := { stood := { row := shelfCutsUptoRow, standIns := [], harness := (true, "817d0f5068afed408496b82788b1fc0dae688fe8ba60ca94d936d1955564cfab"), looks := true }, kinds := [], alts := [], laidByText := true, laidKinds := [.data], laidTests := true, laidLooks := .later }
def ShelfCutsUptoCardSaid : Prop := Claim7.holds Tryz.pinned (.plain (OpenSpec.upto shelfCutsSpec)) shelfCutsUptoCard

/-- THE SECOND FORM's CARD OF 'weirkeeplaw09.ShelfVersions'. -/
def shelfVersionsUptoCard : Claim7 := { stood := { row := shelfVersionsUptoRow, standIns := [], harness := (true, "817d0f5068afed408496b82788b1fc0dae688fe8ba60ca94d936d1955564cfab"), looks := true }, kinds := [], alts := [], laidByText := true, laidKinds := [.data], laidTests := true, laidLooks := .later }
def ShelfVersionsUptoCardSaid : Prop := Claim7.holds Tryz.pinned (.plain (OpenSpec.upto shelfVersionsSpec)) shelfVersionsUptoCard

/-- THE SECOND FORM's CARD OF 'weirkeeplaw09.ShelfDrops'. -/
def shelfDropsUptoCard : Claim7 := { stood := { row := shelfDropsUptoRow, standIns := [], harness := (true, "817d0f5068afed408496b82788b1fc0dae688fe8ba60ca94d936d1955564cfab"), looks := true }, kinds := [], alts := [], laidByText := true, laidKinds := [.data], laidTests := true, laidLooks := .later }
def ShelfDropsUptoCardSaid : Prop := Claim7.holds Tryz.pinned (.plain (OpenSpec.upto shelfDropsSpec)) shelfDropsUptoCard
end Rows
end Go.Proofs.YtacdbfaoeioflaaGreatDoor
