/-
  No cell of these rows narrows 'for every input' (looked for: loops, veiled, ifaces, maps, wideKeys, modest, calm, conditions, laid).
  DERIVED. THE GIVEN ROWS OF THIS SEAT. 6 by the template 'for every input the law returns true; each argument reads behind the call as it read before'; 0 by the template 'total and deterministic' (their statements: YtdkkoeiceaolnaaTotals.lean).
  GIVEN WITH THE SEED: the statements are not yours to turn. If you find one false, say at which input.
  Laid BY PROGRAM, IN A SANDBOX (cutbox-rows.mjs): the forced cells as the released guide's own fill.sh prints them over the translation e9fc479826cfbf9a… (all of the seat's roots in one cut). By AI agents, Wed Nov 11 2026. No macro, syntax, notation, axiom, sorry.
-/
import Derived.Test.YtdkkoeiceaolnaaChecked
import GoSem.Claim
import GoSem.ClaimJoined
import GoSem.ClaimMapViews
import Derived.JoinedTies
import Derived.KernelRfl
namespace Go.Proofs.Ytdkkoeiceaolnaa
/- THE CELL 'sum', in the pinned program and in every row, IS THE sha256 OF THE DUMP (.gsa) THAT YtdkkoeiceaolnaaProg.lean LOADS. Nothing in Lean hashes anything: it is a label: what it is worth is what the hold of that sum in a sandbox is worth. -/
noncomputable def Try.pinned : Pinned := { name := "ytdkkoeiceaolnaa", sum := "e9fc479826cfbf9ac5e19d44a04b67492055f2c4123ee81d7067cbdcbef29d85", checked := Try.checked }
namespace Rows
def none {H : Type} : Left H := { results := [], args := [] }

/-- 'weirkeeplaw05.ClockTicks': WHATEVER THE INPUT: true; the input reads as it did. -/
def clockTicksSpec : ChangeSpec := { name := "clockTicks", fn := fun _ => fun
  | [d1, d2] => { results := [.lit (.bool true)], args := [d1, d2] }
  | _ => none }
def clockTicksRow : OpenClaim := { program := "ytdkkoeiceaolnaa", sum := "e9fc479826cfbf9ac5e19d44a04b67492055f2c4123ee81d7067cbdcbef29d85", func := "weirkeep/weirkeeplaw05.ClockTicks", spec := "clockTicks", apart := false }
def ClockTicksSaid : Prop := clockTicksRow.holds Try.pinned (OpenSpec.ofChange clockTicksSpec)

/-- ITS FALSE NEIGHBOUR: 'it returns false'. Refute it at one input. -/
def clockTicksWrong : ChangeSpec := { name := "clockTicks", fn := fun _ => fun
  | [d1, d2] => { results := [.lit (.bool false)], args := [d1, d2] }
  | _ => none }
def ClockTicksWrongFalsely : Prop := clockTicksRow.holds Try.pinned (OpenSpec.ofChange clockTicksWrong)

/-- 'weirkeeplaw05.ClockFair': WHATEVER THE INPUT: true; the input reads as it did. -/
def clockFairSpec : ChangeSpec := { name := "clockFair", fn := fun _ => fun
  | [d1, d2, d3, d4, d5] => { results := [.lit (.bool true)], args := [d1, d2, d3, d4, d5] }
  | _ => none }
def clockFairRow : OpenClaim := { program := "ytdkkoeiceaolnaa", sum := "e9fc479826cfbf9ac5e19d44a04b67492055f2c4123ee81d7067cbdcbef29d85", func := "weirkeep/weirkeeplaw05.ClockFair", spec := "clockFair", unfollowed := true, recurses := true, apart := false }
def ClockFairSaid : Prop := clockFairRow.holds Try.pinned (OpenSpec.ofChange clockFairSpec)

/-- ITS FALSE NEIGHBOUR: 'it returns false'. Refute it at one input. -/
def clockFairWrong : ChangeSpec := { name := "clockFair", fn := fun _ => fun
  | [d1, d2, d3, d4, d5] => { results := [.lit (.bool false)], args := [d1, d2, d3, d4, d5] }
  | _ => none }
def ClockFairWrongFalsely : Prop := clockFairRow.holds Try.pinned (OpenSpec.ofChange clockFairWrong)

/-- 'weirkeeplaw05.ClockParts': WHATEVER THE INPUT: true; the input reads as it did. -/
def clockPartsSpec : ChangeSpec := { name := "clockParts", fn := fun _ => fun
  | [d1, d2, d3, d4, d5, d6] => { results := [.lit (.bool true)], args := [d1, d2, d3, d4, d5, d6] }
  | _ => none }
def clockPartsRow : OpenClaim := { program := "ytdkkoeiceaolnaa", sum := "e9fc479826cfbf9ac5e19d44a04b67492055f2c4123ee81d7067cbdcbef29d85", func := "weirkeep/weirkeeplaw05.ClockParts", spec := "clockParts", unfollowed := true, recurses := true, apart := false }
def ClockPartsSaid : Prop := clockPartsRow.holds Try.pinned (OpenSpec.ofChange clockPartsSpec)

/-- ITS FALSE NEIGHBOUR: 'it returns false'. Refute it at one input. -/
def clockPartsWrong : ChangeSpec := { name := "clockParts", fn := fun _ => fun
  | [d1, d2, d3, d4, d5, d6] => { results := [.lit (.bool false)], args := [d1, d2, d3, d4, d5, d6] }
  | _ => none }
def ClockPartsWrongFalsely : Prop := clockPartsRow.holds Try.pinned (OpenSpec.ofChange clockPartsWrong)

/-- 'weirkeeplaw05.ClockMargin': WHATEVER THE INPUT: true; the input reads as it did. -/
def clockMarginSpec : ChangeSpec := { name := "clockMargin", fn := fun _ => fun
  | [d1, d2, d3, d4] => { results := [.lit (.bool true)], args := [d1, d2, d3, d4] }
  | _ => none }
def clockMarginRow : OpenClaim := { program := "ytdkkoeiceaolnaa", sum := "e9fc479826cfbf9ac5e19d44a04b67492055f2c4123ee81d7067cbdcbef29d85", func := "weirkeep/weirkeeplaw05.ClockMargin", spec := "clockMargin", unfollowed := true, recurses := true, apart := false }
def ClockMarginSaid : Prop := clockMarginRow.holds Try.pinned (OpenSpec.ofChange clockMarginSpec)

/-- ITS FALSE NEIGHBOUR: 'it returns false'. Refute it at one input. -/
def clockMarginWrong : ChangeSpec := { name := "clockMargin", fn := fun _ => fun
  | [d1, d2, d3, d4] => { results := [.lit (.bool false)], args := [d1, d2, d3, d4] }
  | _ => none }
def ClockMarginWrongFalsely : Prop := clockMarginRow.holds Try.pinned (OpenSpec.ofChange clockMarginWrong)

/-- 'weirkeeplaw05.ClockSame': WHATEVER THE INPUT: true; the input reads as it did. -/
def clockSameSpec : ChangeSpec := { name := "clockSame", fn := fun _ => fun
  | [d1, d2, d3, d4] => { results := [.lit (.bool true)], args := [d1, d2, d3, d4] }
  | _ => none }
def clockSameRow : OpenClaim := { program := "ytdkkoeiceaolnaa", sum := "e9fc479826cfbf9ac5e19d44a04b67492055f2c4123ee81d7067cbdcbef29d85", func := "weirkeep/weirkeeplaw05.ClockSame", spec := "clockSame", unfollowed := true, recurses := true, apart := false }
def ClockSameSaid : Prop := clockSameRow.holds Try.pinned (OpenSpec.ofChange clockSameSpec)

/-- ITS FALSE NEIGHBOUR: 'it returns false'. Refute it at one input. -/
def clockSameWrong : ChangeSpec := { name := "clockSame", fn := fun _ => fun
  | [d1, d2, d3, d4] => { results := [.lit (.bool false)], args := [d1, d2, d3, d4] }
  | _ => none }
def ClockSameWrongFalsely : Prop := clockSameRow.holds Try.pinned (OpenSpec.ofChange clockSameWrong)

/-- 'weirkeeplaw05.ClockMargins': WHATEVER THE INPUT: true; the input reads as it did. -/
def clockMarginsSpec : ChangeSpec := { name := "clockMargins", fn := fun _ => fun
  | [d1, d2, d3, d4, d5] => { results := [.lit (.bool true)], args := [d1, d2, d3, d4, d5] }
  | _ => none }
def clockMarginsRow : OpenClaim := { program := "ytdkkoeiceaolnaa", sum := "e9fc479826cfbf9ac5e19d44a04b67492055f2c4123ee81d7067cbdcbef29d85", func := "weirkeep/weirkeeplaw05.ClockMargins", spec := "clockMargins", apart := false }
def ClockMarginsSaid : Prop := clockMarginsRow.holds Try.pinned (OpenSpec.ofChange clockMarginsSpec)

/-- ITS FALSE NEIGHBOUR: 'it returns false'. Refute it at one input. -/
def clockMarginsWrong : ChangeSpec := { name := "clockMargins", fn := fun _ => fun
  | [d1, d2, d3, d4, d5] => { results := [.lit (.bool false)], args := [d1, d2, d3, d4, d5] }
  | _ => none }
def ClockMarginsWrongFalsely : Prop := clockMarginsRow.holds Try.pinned (OpenSpec.ofChange clockMarginsWrong)

/- THE SECOND FORM. 'bulk': how many values and letters a reading holds, each counted each time it is reached (what is shared counts as often as it is met; a slice's spare places count too). A statement '..UptoSaid' is the law's where the arguments, and the package variables that the reading takes, are together of bulk at most 1048576: NARROWER than '..Said'. Prove '..Said' where nothing that the law and all that it calls make is longer than what came in: it says more and counts as full. Else prove '..UptoSaid'. A law counts once. -/
mutual
def uptoBulk {H : Type} : DataW H → Nat
  | .lit (.string bytes) => bytes.length + 1
  | .lit _ => 1
  | .nil => 1
  | .ptr d => uptoBulk d + 1
  | .slice elems spare => uptoBulkAll elems + uptoBulkAll spare + 1
  | .agg parts => uptoBulkAll parts + 1
  | .iface _ d => uptoBulk d + 1
  | .map entries => uptoBulkEntries entries + 1
  | .held _ => 1
def uptoBulkAll {H : Type} : List (DataW H) → Nat
  | [] => 0
  | d :: r => uptoBulk d + uptoBulkAll r
def uptoBulkEntries {H : Type} : List (Lit × DataW H) → Nat
  | [] => 0
  | x :: r => uptoBulkEntry x + uptoBulkEntries r
def uptoBulkEntry {H : Type} : Lit × DataW H → Nat
  | (.string bytes, d) => bytes.length + uptoBulk d + 1
  | (_, d) => uptoBulk d + 1
 end
def uptoSmall : (H : Type) → List (DataW H) → Bool := fun _ ds => decide (uptoBulkAll ds ≤ 1048576)
def OpenSpec.upto (s : _root_.Go.ChangeSpec) : _root_.Go.OpenSpec := { _root_.Go.OpenSpec.ofChange s with cond := some uptoSmall }

/-- 'weirkeeplaw05.ClockTicks', WHERE WHAT IT READS IS OF BULK AT MOST 1048576: true; the input reads as it did. -/
def clockTicksUptoRow : OpenClaim := { program := "ytdkkoeiceaolnaa", sum := "e9fc479826cfbf9ac5e19d44a04b67492055f2c4123ee81d7067cbdcbef29d85", func := "weirkeep/weirkeeplaw05.ClockTicks", spec := "clockTicks", apart := false, narrowed := true }
def ClockTicksUptoSaid : Prop := clockTicksUptoRow.holds Try.pinned (OpenSpec.upto clockTicksSpec)

/-- 'weirkeeplaw05.ClockFair', WHERE WHAT IT READS IS OF BULK AT MOST 1048576: true; the input reads as it did. -/
def clockFairUptoRow : OpenClaim := { program := "ytdkkoeiceaolnaa", sum := "e9fc479826cfbf9ac5e19d44a04b67492055f2c4123ee81d7067cbdcbef29d85", func := "weirkeep/weirkeeplaw05.ClockFair", spec := "clockFair", unfollowed := true, recurses := true, apart := false, narrowed := true }
def ClockFairUptoSaid : Prop := clockFairUptoRow.holds Try.pinned (OpenSpec.upto clockFairSpec)

/-- 'weirkeeplaw05.ClockParts', WHERE WHAT IT READS IS OF BULK AT MOST 1048576: true; the input reads as it did. -/
def clockPartsUptoRow : OpenClaim := { program := "ytdkkoeiceaolnaa", sum := "e9fc479826cfbf9ac5e19d44a04b67492055f2c4123ee81d7067cbdcbef29d85", func := "weirkeep/weirkeeplaw05.ClockParts", spec := "clockParts", unfollowed := true, recurses := true, apart := false, narrowed := true }
def ClockPartsUptoSaid : Prop := clockPartsUptoRow.holds Try.pinned (OpenSpec.upto clockPartsSpec)

/-- 'weirkeeplaw05.ClockMargin', WHERE WHAT IT READS IS OF BULK AT MOST 1048576: true; the input reads as it did. -/
def clockMarginUptoRow : OpenClaim := { program := "ytdkkoeiceaolnaa", sum := "e9fc479826cfbf9ac5e19d44a04b67492055f2c4123ee81d7067cbdcbef29d85", func := "weirkeep/weirkeeplaw05.ClockMargin", spec := "clockMargin", unfollowed := true, recurses := true, apart := false, narrowed := true }
def ClockMarginUptoSaid : Prop := clockMarginUptoRow.holds Try.pinned (OpenSpec.upto clockMarginSpec)

/-- 'weirkeeplaw05.ClockSame', WHERE WHAT IT READS IS OF BULK AT MOST 1048576: true; the input reads as it did. -/
def clockSameUptoRow : OpenClaim := { program := "ytdkkoeiceaolnaa", sum := "e9fc479826cfbf9ac5e19d44a04b67492055f2c4123ee81d7067cbdcbef29d85", func := "weirkeep/weirkeeplaw05.ClockSame", spec := "clockSame", unfollowed := true, recurses := true, apart := false, narrowed := true }
def ClockSameUptoSaid : Prop := clockSameUptoRow.holds Try.pinned (OpenSpec.upto clockSameSpec)

/-- 'weirkeeplaw05.ClockMargins', WHERE WHAT IT READS IS OF BULK AT MOST 1048576: true; the input reads as it did. -/
def clockMarginsUptoRow : OpenClaim := { program := "ytdkkoeiceaolnaa", sum := "e9fc479826cfbf9ac5e19d44a04b67492055f2c4123ee81d7067cbdcbef29d85", func := "weirkeep/weirkeeplaw05.ClockMargins", spec := "clockMargins", apart := false, narrowed := true }
def ClockMarginsUptoSaid : Prop := clockMarginsUptoRow.holds Try.pinned (OpenSpec.upto clockMarginsSpec)

end Rows
end Go.Proofs.Ytdkkoeiceaolnaa
