/-
  No cell of these rows narrows 'for every input' (looked for: loops, veiled, ifaces, maps, wideKeys, modest, calm, conditions, laid).
  DERIVED. THE GIVEN ROWS OF THIS SEAT. 5 by the template 'for every input the law returns true; each argument reads behind the call as it read before'; 0 by the template 'total and deterministic' (their statements: YthjinpbclfankaaTotals.lean).
  GIVEN WITH THE SEED: the statements are not yours to turn. If you find one false, say at which input.
  Laid BY PROGRAM, IN A SANDBOX (cutbox-rows.mjs): the forced cells as the released guide's own fill.sh prints them over the translation 8d36463e7d4fde19… (all of the seat's roots in one cut). By AI agents, Wed Nov 11 2026. No macro, syntax, notation, axiom, sorry.
-/
import Derived.Test.YthjinpbclfankaaChecked
import GoSem.Claim
import GoSem.ClaimJoined
import GoSem.ClaimMapViews
import Derived.JoinedTies
import Derived.KernelRfl
namespace Go.Proofs.Ythjinpbclfankaa
/- THE CELL 'sum', in the pinned program and in every row, IS THE sha256 OF THE DUMP (.gsa) THAT YthjinpbclfankaaProg.lean LOADS. Nothing in Lean hashes anything: it is a label: what it is worth is what the hold of that sum in a sandbox is worth. -/
noncomputable def Try.pinned : Pinned := { name := "ythjinpbclfankaa", sum := "8d36463e7d4fde197320b306cc0aeba93279a672fdabe7d3e2f075ede7960178", checked := Try.checked }
namespace Rows
def none {H : Type} : Left H := { results := [], args := [] }

/-- 'weirkeeplaw12.ConfigApplies': WHATEVER THE INPUT: true; the input reads as it did. -/
def configAppliesSpec : ChangeSpec := { name := "configApplies", fn := fun _ => fun
  | [d1, d2, d3] => { results := [.lit (.bool true)], args := [d1, d2, d3] }
  | _ => none }
def configAppliesRow : OpenClaim := { program := "ythjinpbclfankaa", sum := "8d36463e7d4fde197320b306cc0aeba93279a672fdabe7d3e2f075ede7960178", func := "weirkeep/weirkeeplaw12.ConfigApplies", spec := "configApplies", inPlace := ["slices.overlaps[int]"], unfollowed := true, recurses := true, apart := false }
def ConfigAppliesSaid : Prop := configAppliesRow.holds Try.pinned (OpenSpec.ofChange configAppliesSpec)

/-- ITS FALSE NEIGHBOUR: 'it returns false'. Refute it at one input. -/
def configAppliesWrong : ChangeSpec := { name := "configApplies", fn := fun _ => fun
  | [d1, d2, d3] => { results := [.lit (.bool false)], args := [d1, d2, d3] }
  | _ => none }
def ConfigAppliesWrongFalsely : Prop := configAppliesRow.holds Try.pinned (OpenSpec.ofChange configAppliesWrong)

/-- 'weirkeeplaw12.ConfigWhere': WHATEVER THE INPUT: true; the input reads as it did. -/
def configWhereSpec : ChangeSpec := { name := "configWhere", fn := fun _ => fun
  | [d1, d2] => { results := [.lit (.bool true)], args := [d1, d2] }
  | _ => none }
def configWhereRow : OpenClaim := { program := "ythjinpbclfankaa", sum := "8d36463e7d4fde197320b306cc0aeba93279a672fdabe7d3e2f075ede7960178", func := "weirkeep/weirkeeplaw12.ConfigWhere", spec := "configWhere", inPlace := ["slices.overlaps[int]"], unfollowed := true, recurses := true, apart := false }
def ConfigWhereSaid : Prop := configWhereRow.holds Try.pinned (OpenSpec.ofChange configWhereSpec)

/-- ITS FALSE NEIGHBOUR: 'it returns false'. Refute it at one input. -/
def configWhereWrong : ChangeSpec := { name := "configWhere", fn := fun _ => fun
  | [d1, d2] => { results := [.lit (.bool false)], args := [d1, d2] }
  | _ => none }
def ConfigWhereWrongFalsely : Prop := configWhereRow.holds Try.pinned (OpenSpec.ofChange configWhereWrong)

/-- 'weirkeeplaw12.ConfigKeeps': WHATEVER THE INPUT: true; the input reads as it did. -/
def configKeepsSpec : ChangeSpec := { name := "configKeeps", fn := fun _ => fun
  | [d1, d2, d3] => { results := [.lit (.bool true)], args := [d1, d2, d3] }
  | _ => none }
def configKeepsRow : OpenClaim := { program := "ythjinpbclfankaa", sum := "8d36463e7d4fde197320b306cc0aeba93279a672fdabe7d3e2f075ede7960178", func := "weirkeep/weirkeeplaw12.ConfigKeeps", spec := "configKeeps", inPlace := ["slices.overlaps[int]"], unfollowed := true, recurses := true, apart := false }
def ConfigKeepsSaid : Prop := configKeepsRow.holds Try.pinned (OpenSpec.ofChange configKeepsSpec)

/-- ITS FALSE NEIGHBOUR: 'it returns false'. Refute it at one input. -/
def configKeepsWrong : ChangeSpec := { name := "configKeeps", fn := fun _ => fun
  | [d1, d2, d3] => { results := [.lit (.bool false)], args := [d1, d2, d3] }
  | _ => none }
def ConfigKeepsWrongFalsely : Prop := configKeepsRow.holds Try.pinned (OpenSpec.ofChange configKeepsWrong)

/-- 'weirkeeplaw12.ConfigCuts': WHATEVER THE INPUT: true; the input reads as it did. -/
def configCutsSpec : ChangeSpec := { name := "configCuts", fn := fun _ => fun
  | [d1, d2, d3, d4] => { results := [.lit (.bool true)], args := [d1, d2, d3, d4] }
  | _ => none }
def configCutsRow : OpenClaim := { program := "ythjinpbclfankaa", sum := "8d36463e7d4fde197320b306cc0aeba93279a672fdabe7d3e2f075ede7960178", func := "weirkeep/weirkeeplaw12.ConfigCuts", spec := "configCuts", inPlace := ["slices.overlaps[int]"], unfollowed := true, recurses := true, apart := false }
def ConfigCutsSaid : Prop := configCutsRow.holds Try.pinned (OpenSpec.ofChange configCutsSpec)

/-- ITS FALSE NEIGHBOUR: 'it returns false'. Refute it at one input. -/
def configCutsWrong : ChangeSpec := { name := "configCuts", fn := fun _ => fun
  | [d1, d2, d3, d4] => { results := [.lit (.bool false)], args := [d1, d2, d3, d4] }
  | _ => none }
def ConfigCutsWrongFalsely : Prop := configCutsRow.holds Try.pinned (OpenSpec.ofChange configCutsWrong)

/-- 'weirkeeplaw12.ConfigTables': WHATEVER THE INPUT: true; the input reads as it did. -/
def configTablesSpec : ChangeSpec := { name := "configTables", fn := fun _ => fun
  | [d1, d2, d3, d4] => { results := [.lit (.bool true)], args := [d1, d2, d3, d4] }
  | _ => none }
def configTablesRow : OpenClaim := { program := "ythjinpbclfankaa", sum := "8d36463e7d4fde197320b306cc0aeba93279a672fdabe7d3e2f075ede7960178", func := "weirkeep/weirkeeplaw12.ConfigTables", spec := "configTables", inPlace := ["slices.overlaps[int]"], unfollowed := true, recurses := true, apart := false }
def ConfigTablesSaid : Prop := configTablesRow.holds Try.pinned (OpenSpec.ofChange configTablesSpec)

/-- ITS FALSE NEIGHBOUR: 'it returns false'. Refute it at one input. -/
def configTablesWrong : ChangeSpec := { name := "configTables", fn := fun _ => fun
  | [d1, d2, d3, d4] => { results := [.lit (.bool false)], args := [d1, d2, d3, d4] }
  | _ => none }
def ConfigTablesWrongFalsely : Prop := configTablesRow.holds Try.pinned (OpenSpec.ofChange configTablesWrong)

/- THE SECOND FORM. 'bulk': how many values and letters a reading holds, each counted each time it is reached (what is shared counts as often as it is met; a slice's spare places count too). A statement '..UptoSaid' is the law's where the arguments, and the package variables that the reading takes, are together of bulk at most 1048576: NARROWER than '..Said'. Prove '..Said' where nothing that the law and all that it calls make is longer than what came in: it says more and counts as full. Else prove '..UptoSaid'. A law counts once. -/
mutual
def uptoBulk {H : Type} : DataW H → Nat
  | .lit (.string bytes) => bytes.length + 1
  | .lit _ => 1
  | .nil => 1
  | .ptr d => uptoBulk d + 1
  | .slice elems spare => uptoBulkAll elems + uptoBulkAll spare + 1
  | .agg parts => uptoBulkAll parts + 1
  | .iface _ d => uptoBulk d + 1
  | .map entries => uptoBulkEntries entries + 1
  | .held _ => 1
def uptoBulkAll {H : Type} : List (DataW H) → Nat
  | [] => 0
  | d :: r => uptoBulk d + uptoBulkAll r
def uptoBulkEntries {H : Type} : List (Lit × DataW H) → Nat
  | [] => 0
  | x :: r => uptoBulkEntry x + uptoBulkEntries r
def uptoBulkEntry {H : Type} : Lit × DataW H → Nat
  | (.string bytes, d) => bytes.length + uptoBulk d + 1
  | (_, d) => uptoBulk d + 1
 end
def uptoSmall : (H : Type) → List (DataW H) → Bool := fun _ ds => decide (uptoBulkAll ds ≤ 1048576)
def OpenSpec.upto (s : _root_.Go.ChangeSpec) : _root_.Go.OpenSpec := { _root_.Go.OpenSpec.ofChange s with cond := some uptoSmall }

/-- 'weirkeeplaw12.ConfigApplies', WHERE WHAT IT READS IS OF BULK AT MOST 1048576: true; the input reads as it did. -/
def configAppliesUptoRow : OpenClaim := { program := "ythjinpbclfankaa", sum := "8d36463e7d4fde197320b306cc0aeba93279a672fdabe7d3e2f075ede7960178", func := "weirkeep/weirkeeplaw12.ConfigApplies", spec := "configApplies", inPlace := ["slices.overlaps[int]"], unfollowed := true, recurses := true, apart := false, narrowed := true }
def ConfigAppliesUptoSaid : Prop := configAppliesUptoRow.holds Try.pinned (OpenSpec.upto configAppliesSpec)

/-- 'weirkeeplaw12.ConfigWhere', WHERE WHAT IT READS IS OF BULK AT MOST 1048576: true; the input reads as it did. -/
def configWhereUptoRow : OpenClaim := { program := "ythjinpbclfankaa", sum := "8d36463e7d4fde197320b306cc0aeba93279a672fdabe7d3e2f075ede7960178", func := "weirkeep/weirkeeplaw12.ConfigWhere", spec := "configWhere", inPlace := ["slices.overlaps[int]"], unfollowed := true, recurses := true, apart := false, narrowed := true }
def ConfigWhereUptoSaid : Prop := configWhereUptoRow.holds Try.pinned (OpenSpec.upto configWhereSpec)

/-- 'weirkeeplaw12.ConfigKeeps', WHERE WHAT IT READS IS OF BULK AT MOST 1048576: true; the input reads as it did. -/
def configKeepsUptoRow : OpenClaim := { program := "ythjinpbclfankaa", sum := "8d36463e7d4fde197320b306cc0aeba93279a672fdabe7d3e2f075ede7960178", func := "weirkeep/weirkeeplaw12.ConfigKeeps", spec := "configKeeps", inPlace := ["slices.overlaps[int]"], unfollowed := true, recurses := true, apart := false, narrowed := true }
def ConfigKeepsUptoSaid : Prop := configKeepsUptoRow.holds Try.pinned (OpenSpec.upto configKeepsSpec)

/-- 'weirkeeplaw12.ConfigCuts', WHERE WHAT IT READS IS OF BULK AT MOST 1048576: true; the input reads as it did. -/
def configCutsUptoRow : OpenClaim := { program := "ythjinpbclfankaa", sum := "8d36463e7d4fde197320b306cc0aeba93279a672fdabe7d3e2f075ede7960178", func := "weirkeep/weirkeeplaw12.ConfigCuts", spec := "configCuts", inPlace := ["slices.overlaps[int]"], unfollowed := true, recurses := true, apart := false, narrowed := true }
def ConfigCutsUptoSaid : Prop := configCutsUptoRow.holds Try.pinned (OpenSpec.upto configCutsSpec)

/-- 'weirkeeplaw12.ConfigTables', WHERE WHAT IT READS IS OF BULK AT MOST 1048576: true; the input reads as it did. -/
def configTablesUptoRow : OpenClaim := { program := "ythjinpbclfankaa", sum := "8d36463e7d4fde197320b306cc0aeba93279a672fdabe7d3e2f075ede7960178", func := "weirkeep/weirkeeplaw12.ConfigTables", spec := "configTables", inPlace := ["slices.overlaps[int]"], unfollowed := true, recurses := true, apart := false, narrowed := true }
def ConfigTablesUptoSaid : Prop := configTablesUptoRow.holds Try.pinned (OpenSpec.upto configTablesSpec)

end Rows
end Go.Proofs.Ythjinpbclfankaa
