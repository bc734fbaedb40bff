/-
  DERIVED. GIVEN WITH THE SEED: THE CARDS: each row of YtjgicapjbibioaaDoorRows.lean that lists a variable, with what it lists TIED to the program's text (the seventh form; the later family's looks); each row that meets fmt, with fmt's text TOLD by the authors' own Lean function (tested against real Go, not proved from fmt's source: count such statements apart). THE CARD IS WHAT COUNTS. Prove the row's statement (the work); the ties are given (YtjgicapjbibioaaDoorTie.lean); close each card by the builder's one call (the guide's Derived/Test/ToyasCard.lean, 'card_holds'). Laid BY PROGRAM, IN A SANDBOX (cutbox-door.mjs). By AI agents, Wed Nov 11 2026. No macro, syntax, notation, axiom, sorry.
-/
import Derived.Test.YtjgicapjbibioaaDoorRows
import GoSem.ClaimSeven
namespace Go.Proofs.YtjgicapjbibioaaDoor
namespace Rows

/-- THE TIED CARD OF 'weirkeeplaw03.WireEncodes'. -/
def wireEncodesCard : Claim7 := { stood := { row := wireEncodesRow, standIns := [], harness := (true, "a74ab75c65355e515f08ec83673030bcd7d2a038f2dc5be231891debc5fdea74"), looks := true }, kinds := [], alts := [], laidByText := true, laidKinds := [.data, .handle], laidTests := true, laidLooks := .later }
def WireEncodesCardSaid : Prop := Claim7.holds Tryd.pinned (.plain (OpenSpec.ofChange wireEncodesSpec)) wireEncodesCard

/-- THE TIED CARD OF 'weirkeeplaw03.WireDecodes'. -/
def wireDecodesCard : Claim7 := { stood := { row := wireDecodesRow, standIns := [], harness := (true, "a74ab75c65355e515f08ec83673030bcd7d2a038f2dc5be231891debc5fdea74"), looks := true }, kinds := [], alts := [], laidByText := true, laidKinds := [.data, .handle], laidTests := true, laidLooks := .later }
def WireDecodesCardSaid : Prop := Claim7.holds Tryd.pinned (.plain (OpenSpec.ofChange wireDecodesSpec)) wireDecodesCard

/-- THE TIED CARD OF 'weirkeeplaw03.WireChanged'. -/
def wireChangedCard : Claim7 := { stood := { row := wireChangedRow, standIns := [], harness := (true, "a74ab75c65355e515f08ec83673030bcd7d2a038f2dc5be231891debc5fdea74"), looks := true }, kinds := [], alts := [], laidByText := true, laidKinds := [.data, .handle], laidTests := true, laidLooks := .later }
def WireChangedCardSaid : Prop := Claim7.holds Tryd.pinned (.plain (OpenSpec.ofChange wireChangedSpec)) wireChangedCard

/-- THE TIED CARD OF 'weirkeeplaw03.WireApart'. -/
def wireApartCard : Claim7 := { stood := { row := wireApartRow, standIns := [], harness := (true, "a74ab75c65355e515f08ec83673030bcd7d2a038f2dc5be231891debc5fdea74"), looks := true }, kinds := [], alts := [], laidByText := true, laidKinds := [.data, .handle], laidTests := true, laidLooks := .later }
def WireApartCardSaid : Prop := Claim7.holds Tryd.pinned (.plain (OpenSpec.ofChange wireApartSpec)) wireApartCard

/-- THE SECOND FORM's CARD OF 'weirkeeplaw03.WireEncodes'. -/
def wireEncodesUptoCard : Claim7 := { stood := { row := wireEncodesUptoRow, standIns := [], harness := (true, "a74ab75c65355e515f08ec83673030bcd7d2a038f2dc5be231891debc5fdea74"), looks := true }, kinds := [], alts := [], laidByText := true, laidKinds := [.data, .handle], laidTests := true, laidLooks := .later }
def WireEncodesUptoCardSaid : Prop := Claim7.holds Tryd.pinned (.plain (OpenSpec.upto wireEncodesSpec)) wireEncodesUptoCard

/-- THE SECOND FORM's CARD OF 'weirkeeplaw03.WireDecodes'. -/
def wireDecodesUptoCard : Claim7 := { stood := { row := wireDecodesUptoRow, standIns := [], harness := (true, "a74ab75c65355e515f08ec83673030bcd7d2a038f2dc5be231891debc5fdea74"), looks := true }, kinds := [], alts := [], laidByText := true, laidKinds := [.data, .handle], laidTests := true, laidLooks := .later }
def WireDecodesUptoCardSaid : Prop := Claim7.holds Tryd.pinned (.plain (OpenSpec.upto wireDecodesSpec)) wireDecodesUptoCard

/-- THE SECOND FORM's CARD OF 'weirkeeplaw03.WireChanged'. -/
def wireChangedUptoCard : Claim7 := { stood := { row := wireChangedUptoRow, standIns := [], harness := (true, "a74ab75c65355e515f08ec83673030bcd7d2a038f2dc5be231891debc5fdea74"), looks := true }, kinds := [], alts := [], laidByText := true, laidKinds := [.data, .handle], laidTests := true, laidLooks := .later }
def WireChangedUptoCardSaid : Prop := Claim7.holds Tryd.pinned (.plain (OpenSpec.upto wireChangedSpec)) wireChangedUptoCard

/-- THE SECOND FORM's CARD OF 'weirkeeplaw03.WireApart'. -/
def wireApartUptoCard : Claim7 := { stood := { row := wireApartUptoRow, standIns := [], harness := (true, "a74ab75c65355e515f08ec83673030bcd7d2a038f2dc5be231891debc5fdea74"), looks := true }, kinds := [], alts := [], laidByText := true, laidKinds := [.data, .handle], laidTests := true, laidLooks := .later }
def WireApartUptoCardSaid : Prop := Claim7.holds Tryd.pinned (.plain (OpenSpec.upto wireApartSpec)) wireApartUptoCard
end Rows
end Go.Proofs.YtjgicapjbibioaaDoor
