/-
  No cell of these rows narrows 'for every input' (looked for: loops, veiled, ifaces, maps, wideKeys, modest, calm, conditions, laid).
  DERIVED. THE GIVEN ROWS OF THIS SEAT. 5 by the template 'for every input the law returns true; each argument reads behind the call as it read before'; 0 by the template 'total and deterministic' (their statements: YtodllmgcoclnmaaTotals.lean).
  GIVEN WITH THE SEED: the statements are not yours to turn. If you find one false, say at which input.
  Laid BY PROGRAM, IN A SANDBOX (cutbox-rows.mjs): the forced cells as the released guide's own fill.sh prints them over the translation 217534a51fff25c6… (all of the seat's roots in one cut). By AI agents, Wed Nov 11 2026. No macro, syntax, notation, axiom, sorry.
-/
import Derived.Test.YtodllmgcoclnmaaChecked
import GoSem.Claim
import GoSem.ClaimJoined
import GoSem.ClaimMapViews
import Derived.JoinedTies
import Derived.KernelRfl
namespace Go.Proofs.Ytodllmgcoclnmaa
/- THE CELL 'sum', in the pinned program and in every row, IS THE sha256 OF THE DUMP (.gsa) THAT YtodllmgcoclnmaaProg.lean LOADS. Nothing in Lean hashes anything: it is a label: what it is worth is what the hold of that sum in a sandbox is worth. -/
noncomputable def Try.pinned : Pinned := { name := "ytodllmgcoclnmaa", sum := "217534a51fff25c6554904a5b96065aeba4ededec19a998cad6bc4a67fc08fd1", checked := Try.checked }
namespace Rows
def none {H : Type} : Left H := { results := [], args := [] }

/-- 'weirkeeplaw07.PlateScript': WHATEVER THE INPUT: true; the input reads as it did. -/
def plateScriptSpec : ChangeSpec := { name := "plateScript", fn := fun _ => fun
  | [d1, d2] => { results := [.lit (.bool true)], args := [d1, d2] }
  | _ => none }
def plateScriptRow : OpenClaim := { program := "ytodllmgcoclnmaa", sum := "217534a51fff25c6554904a5b96065aeba4ededec19a998cad6bc4a67fc08fd1", func := "weirkeep/weirkeeplaw07.PlateScript", spec := "plateScript", unfollowed := true, recurses := true, apart := false }
def PlateScriptSaid : Prop := plateScriptRow.holds Try.pinned (OpenSpec.ofChange plateScriptSpec)

/-- ITS FALSE NEIGHBOUR: 'it returns false'. Refute it at one input. -/
def plateScriptWrong : ChangeSpec := { name := "plateScript", fn := fun _ => fun
  | [d1, d2] => { results := [.lit (.bool false)], args := [d1, d2] }
  | _ => none }
def PlateScriptWrongFalsely : Prop := plateScriptRow.holds Try.pinned (OpenSpec.ofChange plateScriptWrong)

/-- 'weirkeeplaw07.PlatePairs': WHATEVER THE INPUT: true; the input reads as it did. -/
def platePairsSpec : ChangeSpec := { name := "platePairs", fn := fun _ => fun
  | [d1, d2, d3] => { results := [.lit (.bool true)], args := [d1, d2, d3] }
  | _ => none }
def platePairsRow : OpenClaim := { program := "ytodllmgcoclnmaa", sum := "217534a51fff25c6554904a5b96065aeba4ededec19a998cad6bc4a67fc08fd1", func := "weirkeep/weirkeeplaw07.PlatePairs", spec := "platePairs", unfollowed := true, recurses := true, apart := false }
def PlatePairsSaid : Prop := platePairsRow.holds Try.pinned (OpenSpec.ofChange platePairsSpec)

/-- ITS FALSE NEIGHBOUR: 'it returns false'. Refute it at one input. -/
def platePairsWrong : ChangeSpec := { name := "platePairs", fn := fun _ => fun
  | [d1, d2, d3] => { results := [.lit (.bool false)], args := [d1, d2, d3] }
  | _ => none }
def PlatePairsWrongFalsely : Prop := platePairsRow.holds Try.pinned (OpenSpec.ofChange platePairsWrong)

/-- 'weirkeeplaw07.PlateLasts': WHATEVER THE INPUT: true; the input reads as it did. -/
def plateLastsSpec : ChangeSpec := { name := "plateLasts", fn := fun _ => fun
  | [d1, d2, d3] => { results := [.lit (.bool true)], args := [d1, d2, d3] }
  | _ => none }
def plateLastsRow : OpenClaim := { program := "ytodllmgcoclnmaa", sum := "217534a51fff25c6554904a5b96065aeba4ededec19a998cad6bc4a67fc08fd1", func := "weirkeep/weirkeeplaw07.PlateLasts", spec := "plateLasts", unfollowed := true, recurses := true, apart := false }
def PlateLastsSaid : Prop := plateLastsRow.holds Try.pinned (OpenSpec.ofChange plateLastsSpec)

/-- ITS FALSE NEIGHBOUR: 'it returns false'. Refute it at one input. -/
def plateLastsWrong : ChangeSpec := { name := "plateLasts", fn := fun _ => fun
  | [d1, d2, d3] => { results := [.lit (.bool false)], args := [d1, d2, d3] }
  | _ => none }
def PlateLastsWrongFalsely : Prop := plateLastsRow.holds Try.pinned (OpenSpec.ofChange plateLastsWrong)

/-- 'weirkeeplaw07.PlateCuts': WHATEVER THE INPUT: true; the input reads as it did. -/
def plateCutsSpec : ChangeSpec := { name := "plateCuts", fn := fun _ => fun
  | [d1, d2, d3] => { results := [.lit (.bool true)], args := [d1, d2, d3] }
  | _ => none }
def plateCutsRow : OpenClaim := { program := "ytodllmgcoclnmaa", sum := "217534a51fff25c6554904a5b96065aeba4ededec19a998cad6bc4a67fc08fd1", func := "weirkeep/weirkeeplaw07.PlateCuts", spec := "plateCuts", unfollowed := true, recurses := true, apart := false }
def PlateCutsSaid : Prop := plateCutsRow.holds Try.pinned (OpenSpec.ofChange plateCutsSpec)

/-- ITS FALSE NEIGHBOUR: 'it returns false'. Refute it at one input. -/
def plateCutsWrong : ChangeSpec := { name := "plateCuts", fn := fun _ => fun
  | [d1, d2, d3] => { results := [.lit (.bool false)], args := [d1, d2, d3] }
  | _ => none }
def PlateCutsWrongFalsely : Prop := plateCutsRow.holds Try.pinned (OpenSpec.ofChange plateCutsWrong)

/-- 'weirkeeplaw07.PlateReads': WHATEVER THE INPUT: true; the input reads as it did. -/
def plateReadsSpec : ChangeSpec := { name := "plateReads", fn := fun _ => fun
  | [d1, d2, d3] => { results := [.lit (.bool true)], args := [d1, d2, d3] }
  | _ => none }
def plateReadsRow : OpenClaim := { program := "ytodllmgcoclnmaa", sum := "217534a51fff25c6554904a5b96065aeba4ededec19a998cad6bc4a67fc08fd1", func := "weirkeep/weirkeeplaw07.PlateReads", spec := "plateReads", unfollowed := true, recurses := true, apart := false }
def PlateReadsSaid : Prop := plateReadsRow.holds Try.pinned (OpenSpec.ofChange plateReadsSpec)

/-- ITS FALSE NEIGHBOUR: 'it returns false'. Refute it at one input. -/
def plateReadsWrong : ChangeSpec := { name := "plateReads", fn := fun _ => fun
  | [d1, d2, d3] => { results := [.lit (.bool false)], args := [d1, d2, d3] }
  | _ => none }
def PlateReadsWrongFalsely : Prop := plateReadsRow.holds Try.pinned (OpenSpec.ofChange plateReadsWrong)

/- THE SECOND FORM. 'bulk': how many values and letters a reading holds, each counted each time it is reached (what is shared counts as often as it is met; a slice's spare places count too). A statement '..UptoSaid' is the law's where the arguments, and the package variables that the reading takes, are together of bulk at most 1048576: NARROWER than '..Said'. Prove '..Said' where nothing that the law and all that it calls make is longer than what came in: it says more and counts as full. Else prove '..UptoSaid'. A law counts once. -/
mutual
def uptoBulk {H : Type} : DataW H → Nat
  | .lit (.string bytes) => bytes.length + 1
  | .lit _ => 1
  | .nil => 1
  | .ptr d => uptoBulk d + 1
  | .slice elems spare => uptoBulkAll elems + uptoBulkAll spare + 1
  | .agg parts => uptoBulkAll parts + 1
  | .iface _ d => uptoBulk d + 1
  | .map entries => uptoBulkEntries entries + 1
  | .held _ => 1
def uptoBulkAll {H : Type} : List (DataW H) → Nat
  | [] => 0
  | d :: r => uptoBulk d + uptoBulkAll r
def uptoBulkEntries {H : Type} : List (Lit × DataW H) → Nat
  | [] => 0
  | x :: r => uptoBulkEntry x + uptoBulkEntries r
def uptoBulkEntry {H : Type} : Lit × DataW H → Nat
  | (.string bytes, d) => bytes.length + uptoBulk d + 1
  | (_, d) => uptoBulk d + 1
 end
def uptoSmall : (H : Type) → List (DataW H) → Bool := fun _ ds => decide (uptoBulkAll ds ≤ 1048576)
def OpenSpec.upto (s : _root_.Go.ChangeSpec) : _root_.Go.OpenSpec := { _root_.Go.OpenSpec.ofChange s with cond := some uptoSmall }

/-- 'weirkeeplaw07.PlateScript', WHERE WHAT IT READS IS OF BULK AT MOST 1048576: true; the input reads as it did. -/
def plateScriptUptoRow : OpenClaim := { program := "ytodllmgcoclnmaa", sum := "217534a51fff25c6554904a5b96065aeba4ededec19a998cad6bc4a67fc08fd1", func := "weirkeep/weirkeeplaw07.PlateScript", spec := "plateScript", unfollowed := true, recurses := true, apart := false, narrowed := true }
def PlateScriptUptoSaid : Prop := plateScriptUptoRow.holds Try.pinned (OpenSpec.upto plateScriptSpec)

/-- 'weirkeeplaw07.PlatePairs', WHERE WHAT IT READS IS OF BULK AT MOST 1048576: true; the input reads as it did. -/
def platePairsUptoRow : OpenClaim := { program := "ytodllmgcoclnmaa", sum := "217534a51fff25c6554904a5b96065aeba4ededec19a998cad6bc4a67fc08fd1", func := "weirkeep/weirkeeplaw07.PlatePairs", spec := "platePairs", unfollowed := true, recurses := true, apart := false, narrowed := true }
def PlatePairsUptoSaid : Prop := platePairsUptoRow.holds Try.pinned (OpenSpec.upto platePairsSpec)

/-- 'weirkeeplaw07.PlateLasts', WHERE WHAT IT READS IS OF BULK AT MOST 1048576: true; the input reads as it did. -/
def plateLastsUptoRow : OpenClaim := { program := "ytodllmgcoclnmaa", sum := "217534a51fff25c6554904a5b96065aeba4ededec19a998cad6bc4a67fc08fd1", func := "weirkeep/weirkeeplaw07.PlateLasts", spec := "plateLasts", unfollowed := true, recurses := true, apart := false, narrowed := true }
def PlateLastsUptoSaid : Prop := plateLastsUptoRow.holds Try.pinned (OpenSpec.upto plateLastsSpec)

/-- 'weirkeeplaw07.PlateCuts', WHERE WHAT IT READS IS OF BULK AT MOST 1048576: true; the input reads as it did. -/
def plateCutsUptoRow : OpenClaim := { program := "ytodllmgcoclnmaa", sum := "217534a51fff25c6554904a5b96065aeba4ededec19a998cad6bc4a67fc08fd1", func := "weirkeep/weirkeeplaw07.PlateCuts", spec := "plateCuts", unfollowed := true, recurses := true, apart := false, narrowed := true }
def PlateCutsUptoSaid : Prop := plateCutsUptoRow.holds Try.pinned (OpenSpec.upto plateCutsSpec)

/-- 'weirkeeplaw07.PlateReads', WHERE WHAT IT READS IS OF BULK AT MOST 1048576: true; the input reads as it did. -/
def plateReadsUptoRow : OpenClaim := { program := "ytodllmgcoclnmaa", sum := "217534a51fff25c6554904a5b96065aeba4ededec19a998cad6bc4a67fc08fd1", func := "weirkeep/weirkeeplaw07.PlateReads", spec := "plateReads", unfollowed := true, recurses := true, apart := false, narrowed := true }
def PlateReadsUptoSaid : Prop := plateReadsUptoRow.holds Try.pinned (OpenSpec.upto plateReadsSpec)

end Rows
end Go.Proofs.Ytodllmgcoclnmaa
