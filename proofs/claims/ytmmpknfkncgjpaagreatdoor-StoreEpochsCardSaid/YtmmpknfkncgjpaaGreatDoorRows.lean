/-
  NARROWER THAN 'FOR EVERY INPUT', by the rows' own cells (each row's printed sentence says how): StoreScript: laid · StoreValues: laid · StoreTwice: laid · StoreLasts: laid · StoreFences: laid · StoreReads: laid · StoreEpochs: laid.
  DERIVED. THE GIVEN ROWS OF THIS SEAT. 7 by the template 'for every input the law returns true; each argument reads behind the call as it read before'; 0 by the template 'total and deterministic' (their statements: YtmmpknfkncgjpaaGreatDoorTotals.lean).
  GIVEN WITH THE SEED: the statements are not yours to turn. If you find one false, say at which input.
  Laid BY PROGRAM, IN A SANDBOX (cutbox-rows.mjs): the forced cells as the released guide's own fill.sh prints them over the translation 15e10075c9fffa0e… (all of the seat's roots in one cut). By AI agents, Wed Nov 11 2026. No macro, syntax, notation, axiom, sorry.
-/
import Derived.Test.YtmmpknfkncgjpaaGreatDoorChecked
import GoSem.Claim
import GoSem.ClaimJoined
import GoSem.ClaimMapViews
import Derived.JoinedTies
import Derived.KernelRfl
namespace Go.Proofs.YtmmpknfkncgjpaaGreatDoor
/- THE CELL 'sum', in the pinned program and in every row, IS THE sha256 OF THE DUMP (.gsa) THAT YtmmpknfkncgjpaaGreatDoorProg.lean LOADS. Nothing in Lean hashes anything: it is a label: what it is worth is what the hold of that sum in a sandbox is worth. -/
noncomputable def Tryz.pinned : Pinned := { name := "ytmmpknfkncgjpaagreatdoor", sum := "15e10075c9fffa0e0e3b24857709ba1a30a11c7fc867d84f821e33c791b6a79a", checked := Tryz.checked }
namespace Rows
def none {H : Type} : Left H := { results := [], args := [] }

/- WHAT THE LISTED PACKAGE-LEVEL VARIABLES READ AS WHEN THE CALL BEGINS. Each datum BY PROGRAM (the guide's laid-datum.mjs) off the statement by which the dump's own 'gosem.cut.vars' lays the variable. In a bare row this is a premise. The card (YtmmpknfkncgjpaaGreatDoorCards.lean) ties it to the program's text. -/
def laid_weirkeep_check_halves {H : Type} : DataW H := .agg [.lit (.int .u32 0), .lit (.int .u32 498536548), .lit (.int .u32 997073096), .lit (.int .u32 651767980), .lit (.int .u32 1994146192), .lit (.int .u32 1802195444), .lit (.int .u32 1303535960), .lit (.int .u32 1342533948), .lit (.int .u32 3988292384), .lit (.int .u32 4027552580), .lit (.int .u32 3604390888), .lit (.int .u32 3412177804), .lit (.int .u32 2607071920), .lit (.int .u32 2262029012), .lit (.int .u32 2685067896), .lit (.int .u32 3183342108)]
def laid_errors_errorType {H : Type} : DataW H := .iface "internal/reflectlite.rtype" (.agg [.ptr (.lit (.string [101, 114, 114, 111, 114]))])

/-- 'weirkeeplaw13.StoreScript': WHATEVER THE INPUT: true; the input reads as it did. -/
def storeScriptSpec : ChangeSpec := { name := "storeScript", fn := fun _ => fun
  | [d1, d2, d3] => { results := [.lit (.bool true)], args := [d1, d2, d3] }
  | _ => none }
def storeScriptRow : OpenClaim := { program := "ytmmpknfkncgjpaagreatdoor", sum := "15e10075c9fffa0e0e3b24857709ba1a30a11c7fc867d84f821e33c791b6a79a", func := "weirkeep/weirkeeplaw13.StoreScript", spec := "storeScript", inPlace := ["internal/reflectlite.TypeOf", "internal/abi.NoEscape", "internal/bytealg.MakeNoZero", "internal/reflectlite.ValueOf", "(internal/reflectlite.Value).Type", "(internal/reflectlite.Value).IsNil", "(internal/reflectlite.Value).Elem", "(internal/reflectlite.Value).Set"], unfollowed := true, recurses := true, named := ["weirkeep/check.halves", "errors.errorType"], apart := false, laid := [("weirkeep/check.halves", laid_weirkeep_check_halves), ("errors.errorType", laid_errors_errorType)] }
def StoreScriptSaid : Prop := storeScriptRow.holds Tryz.pinned (OpenSpec.ofChange storeScriptSpec)

/-- ITS FALSE NEIGHBOUR: 'it returns false'. Refute it at one input. -/
def storeScriptWrong : ChangeSpec := { name := "storeScript", fn := fun _ => fun
  | [d1, d2, d3] => { results := [.lit (.bool false)], args := [d1, d2, d3] }
  | _ => none }
def StoreScriptWrongFalsely : Prop := storeScriptRow.holds Tryz.pinned (OpenSpec.ofChange storeScriptWrong)

/-- 'weirkeeplaw13.StoreValues': WHATEVER THE INPUT: true; the input reads as it did. -/
def storeValuesSpec : ChangeSpec := { name := "storeValues", fn := fun _ => fun
  | [d1, d2, d3] => { results := [.lit (.bool true)], args := [d1, d2, d3] }
  | _ => none }
def storeValuesRow : OpenClaim := { program := "ytmmpknfkncgjpaagreatdoor", sum := "15e10075c9fffa0e0e3b24857709ba1a30a11c7fc867d84f821e33c791b6a79a", func := "weirkeep/weirkeeplaw13.StoreValues", spec := "storeValues", inPlace := ["internal/reflectlite.ValueOf", "(internal/reflectlite.Value).Type", "(internal/reflectlite.Value).IsNil", "internal/reflectlite.TypeOf", "(internal/reflectlite.Value).Elem", "(internal/reflectlite.Value).Set", "internal/abi.NoEscape", "internal/bytealg.MakeNoZero"], unfollowed := true, recurses := true, named := ["errors.errorType", "weirkeep/check.halves"], apart := false, laid := [("weirkeep/check.halves", laid_weirkeep_check_halves), ("errors.errorType", laid_errors_errorType)] }
def StoreValuesSaid : Prop := storeValuesRow.holds Tryz.pinned (OpenSpec.ofChange storeValuesSpec)

/-- ITS FALSE NEIGHBOUR: 'it returns false'. Refute it at one input. -/
def storeValuesWrong : ChangeSpec := { name := "storeValues", fn := fun _ => fun
  | [d1, d2, d3] => { results := [.lit (.bool false)], args := [d1, d2, d3] }
  | _ => none }
def StoreValuesWrongFalsely : Prop := storeValuesRow.holds Tryz.pinned (OpenSpec.ofChange storeValuesWrong)

/-- 'weirkeeplaw13.StoreTwice': WHATEVER THE INPUT: true; the input reads as it did. -/
def storeTwiceSpec : ChangeSpec := { name := "storeTwice", fn := fun _ => fun
  | [d1, d2, d3, d4] => { results := [.lit (.bool true)], args := [d1, d2, d3, d4] }
  | _ => none }
def storeTwiceRow : OpenClaim := { program := "ytmmpknfkncgjpaagreatdoor", sum := "15e10075c9fffa0e0e3b24857709ba1a30a11c7fc867d84f821e33c791b6a79a", func := "weirkeep/weirkeeplaw13.StoreTwice", spec := "storeTwice", inPlace := ["internal/reflectlite.TypeOf", "internal/abi.NoEscape", "internal/bytealg.MakeNoZero", "internal/reflectlite.ValueOf", "(internal/reflectlite.Value).Type", "(internal/reflectlite.Value).IsNil", "(internal/reflectlite.Value).Elem", "(internal/reflectlite.Value).Set"], unfollowed := true, recurses := true, named := ["weirkeep/check.halves", "errors.errorType"], apart := false, laid := [("weirkeep/check.halves", laid_weirkeep_check_halves), ("errors.errorType", laid_errors_errorType)] }
def StoreTwiceSaid : Prop := storeTwiceRow.holds Tryz.pinned (OpenSpec.ofChange storeTwiceSpec)

/-- ITS FALSE NEIGHBOUR: 'it returns false'. Refute it at one input. -/
def storeTwiceWrong : ChangeSpec := { name := "storeTwice", fn := fun _ => fun
  | [d1, d2, d3, d4] => { results := [.lit (.bool false)], args := [d1, d2, d3, d4] }
  | _ => none }
def StoreTwiceWrongFalsely : Prop := storeTwiceRow.holds Tryz.pinned (OpenSpec.ofChange storeTwiceWrong)

/-- 'weirkeeplaw13.StoreLasts': WHATEVER THE INPUT: true; the input reads as it did. -/
def storeLastsSpec : ChangeSpec := { name := "storeLasts", fn := fun _ => fun
  | [d1, d2, d3, d4, d5] => { results := [.lit (.bool true)], args := [d1, d2, d3, d4, d5] }
  | _ => none }
def storeLastsRow : OpenClaim := { program := "ytmmpknfkncgjpaagreatdoor", sum := "15e10075c9fffa0e0e3b24857709ba1a30a11c7fc867d84f821e33c791b6a79a", func := "weirkeep/weirkeeplaw13.StoreLasts", spec := "storeLasts", inPlace := ["internal/reflectlite.TypeOf", "internal/abi.NoEscape", "internal/bytealg.MakeNoZero", "internal/reflectlite.ValueOf", "(internal/reflectlite.Value).Type", "(internal/reflectlite.Value).IsNil", "(internal/reflectlite.Value).Elem", "(internal/reflectlite.Value).Set"], unfollowed := true, recurses := true, named := ["weirkeep/check.halves", "errors.errorType"], apart := false, laid := [("weirkeep/check.halves", laid_weirkeep_check_halves), ("errors.errorType", laid_errors_errorType)] }
def StoreLastsSaid : Prop := storeLastsRow.holds Tryz.pinned (OpenSpec.ofChange storeLastsSpec)

/-- ITS FALSE NEIGHBOUR: 'it returns false'. Refute it at one input. -/
def storeLastsWrong : ChangeSpec := { name := "storeLasts", fn := fun _ => fun
  | [d1, d2, d3, d4, d5] => { results := [.lit (.bool false)], args := [d1, d2, d3, d4, d5] }
  | _ => none }
def StoreLastsWrongFalsely : Prop := storeLastsRow.holds Tryz.pinned (OpenSpec.ofChange storeLastsWrong)

/-- 'weirkeeplaw13.StoreFences': WHATEVER THE INPUT: true; the input reads as it did. -/
def storeFencesSpec : ChangeSpec := { name := "storeFences", fn := fun _ => fun
  | [d1, d2, d3, d4, d5, d6] => { results := [.lit (.bool true)], args := [d1, d2, d3, d4, d5, d6] }
  | _ => none }
def storeFencesRow : OpenClaim := { program := "ytmmpknfkncgjpaagreatdoor", sum := "15e10075c9fffa0e0e3b24857709ba1a30a11c7fc867d84f821e33c791b6a79a", func := "weirkeep/weirkeeplaw13.StoreFences", spec := "storeFences", inPlace := ["internal/reflectlite.TypeOf", "internal/abi.NoEscape", "internal/bytealg.MakeNoZero", "internal/reflectlite.ValueOf", "(internal/reflectlite.Value).Type", "(internal/reflectlite.Value).IsNil", "(internal/reflectlite.Value).Elem", "(internal/reflectlite.Value).Set"], unfollowed := true, recurses := true, named := ["weirkeep/check.halves", "errors.errorType"], apart := false, laid := [("weirkeep/check.halves", laid_weirkeep_check_halves), ("errors.errorType", laid_errors_errorType)] }
def StoreFencesSaid : Prop := storeFencesRow.holds Tryz.pinned (OpenSpec.ofChange storeFencesSpec)

/-- ITS FALSE NEIGHBOUR: 'it returns false'. Refute it at one input. -/
def storeFencesWrong : ChangeSpec := { name := "storeFences", fn := fun _ => fun
  | [d1, d2, d3, d4, d5, d6] => { results := [.lit (.bool false)], args := [d1, d2, d3, d4, d5, d6] }
  | _ => none }
def StoreFencesWrongFalsely : Prop := storeFencesRow.holds Tryz.pinned (OpenSpec.ofChange storeFencesWrong)

/-- 'weirkeeplaw13.StoreReads': WHATEVER THE INPUT: true; the input reads as it did. -/
def storeReadsSpec : ChangeSpec := { name := "storeReads", fn := fun _ => fun
  | [d1, d2, d3] => { results := [.lit (.bool true)], args := [d1, d2, d3] }
  | _ => none }
def storeReadsRow : OpenClaim := { program := "ytmmpknfkncgjpaagreatdoor", sum := "15e10075c9fffa0e0e3b24857709ba1a30a11c7fc867d84f821e33c791b6a79a", func := "weirkeep/weirkeeplaw13.StoreReads", spec := "storeReads", inPlace := ["internal/reflectlite.TypeOf", "internal/abi.NoEscape", "internal/bytealg.MakeNoZero", "internal/reflectlite.ValueOf", "(internal/reflectlite.Value).Type", "(internal/reflectlite.Value).IsNil", "(internal/reflectlite.Value).Elem", "(internal/reflectlite.Value).Set"], unfollowed := true, recurses := true, named := ["weirkeep/check.halves", "errors.errorType"], apart := false, laid := [("weirkeep/check.halves", laid_weirkeep_check_halves), ("errors.errorType", laid_errors_errorType)] }
def StoreReadsSaid : Prop := storeReadsRow.holds Tryz.pinned (OpenSpec.ofChange storeReadsSpec)

/-- ITS FALSE NEIGHBOUR: 'it returns false'. Refute it at one input. -/
def storeReadsWrong : ChangeSpec := { name := "storeReads", fn := fun _ => fun
  | [d1, d2, d3] => { results := [.lit (.bool false)], args := [d1, d2, d3] }
  | _ => none }
def StoreReadsWrongFalsely : Prop := storeReadsRow.holds Tryz.pinned (OpenSpec.ofChange storeReadsWrong)

/-- 'weirkeeplaw13.StoreEpochs': WHATEVER THE INPUT: true; the input reads as it did. -/
def storeEpochsSpec : ChangeSpec := { name := "storeEpochs", fn := fun _ => fun
  | [d1, d2] => { results := [.lit (.bool true)], args := [d1, d2] }
  | _ => none }
def storeEpochsRow : OpenClaim := { program := "ytmmpknfkncgjpaagreatdoor", sum := "15e10075c9fffa0e0e3b24857709ba1a30a11c7fc867d84f821e33c791b6a79a", func := "weirkeep/weirkeeplaw13.StoreEpochs", spec := "storeEpochs", inPlace := ["internal/reflectlite.TypeOf", "internal/abi.NoEscape", "internal/bytealg.MakeNoZero", "internal/reflectlite.ValueOf", "(internal/reflectlite.Value).Type", "(internal/reflectlite.Value).IsNil", "(internal/reflectlite.Value).Elem", "(internal/reflectlite.Value).Set"], unfollowed := true, recurses := true, named := ["weirkeep/check.halves", "errors.errorType"], apart := false, laid := [("weirkeep/check.halves", laid_weirkeep_check_halves), ("errors.errorType", laid_errors_errorType)] }
def StoreEpochsSaid : Prop := storeEpochsRow.holds Tryz.pinned (OpenSpec.ofChange storeEpochsSpec)

/-- ITS FALSE NEIGHBOUR: 'it returns false'. Refute it at one input. -/
def storeEpochsWrong : ChangeSpec := { name := "storeEpochs", fn := fun _ => fun
  | [d1, d2] => { results := [.lit (.bool false)], args := [d1, d2] }
  | _ => none }
def StoreEpochsWrongFalsely : Prop := storeEpochsRow.holds Tryz.pinned (OpenSpec.ofChange storeEpochsWrong)

/- THE SECOND FORM. 'bulk': how many values and letters a reading holds, each counted each time it is reached (what is shared counts as often as it is met; a slice's spare places count too). A statement '..UptoSaid' is the law's where the arguments, and the package variables that the reading takes, are together of bulk at most 1048576: NARROWER than '..Said'. Prove '..Said' where nothing that the law and all that it calls make is longer than what came in: it says more and counts as full. Else prove '..UptoSaid'. A law counts once. -/
mutual
def uptoBulk {H : Type} : DataW H → Nat
  | .lit (.string bytes) => bytes.length + 1
  | .lit _ => 1
  | .nil => 1
  | .ptr d => uptoBulk d + 1
  | .slice elems spare => uptoBulkAll elems + uptoBulkAll spare + 1
  | .agg parts => uptoBulkAll parts + 1
  | .iface _ d => uptoBulk d + 1
  | .map entries => uptoBulkEntries entries + 1
  | .held _ => 1
def uptoBulkAll {H : Type} : List (DataW H) → Nat
  | [] => 0
  | d :: r => uptoBulk d + uptoBulkAll r
def uptoBulkEntries {H : Type} : List (Lit × DataW H) → Nat
  | [] => 0
  | x :: r => uptoBulkEntry x + uptoBulkEntries r
def uptoBulkEntry {H : Type} : Lit × DataW H → Nat
  | (.string bytes, d) => bytes.length + uptoBulk d + 1
  | (_, d) => uptoBulk d + 1
 end
def uptoSmall : (H : Type) → List (DataW H) → Bool := fun _ ds => decide (uptoBulkAll ds ≤ 1048576)
def OpenSpec.upto (s : _root_.Go.ChangeSpec) : _root_.Go.OpenSpec := { _root_.Go.OpenSpec.ofChange s with cond := some uptoSmall }

/-- 'weirkeeplaw13.StoreScript', WHERE WHAT IT READS IS OF BULK AT MOST 1048576: true; the input reads as it did. -/
def storeScriptUptoRow : OpenClaim := { program := "ytmmpknfkncgjpaagreatdoor", sum := "15e10075c9fffa0e0e3b24857709ba1a30a11c7fc867d84f821e33c791b6a79a", func := "weirkeep/weirkeeplaw13.StoreScript", spec := "storeScript", inPlace := ["internal/reflectlite.TypeOf", "internal/abi.NoEscape", "internal/bytealg.MakeNoZero", "internal/reflectlite.ValueOf", "(internal/reflectlite.Value).Type", "(internal/reflectlite.Value).IsNil", "(internal/reflectlite.Value).Elem", "(internal/reflectlite.Value).Set"], unfollowed := true, recurses := true, named := ["weirkeep/check.halves", "errors.errorType"], apart := false, laid := [("weirkeep/check.halves", laid_weirkeep_check_halves), ("errors.errorType", laid_errors_errorType)], narrowed := true }
def StoreScriptUptoSaid : Prop := storeScriptUptoRow.holds Tryz.pinned (OpenSpec.upto storeScriptSpec)

/-- 'weirkeeplaw13.StoreValues', WHERE WHAT IT READS IS OF BULK AT MOST 1048576: true; the input reads as it did. -/
def storeValuesUptoRow : OpenClaim := { program := "ytmmpknfkncgjpaagreatdoor", sum := "15e10075c9fffa0e0e3b24857709ba1a30a11c7fc867d84f821e33c791b6a79a", func := "weirkeep/weirkeeplaw13.StoreValues", spec := "storeValues", inPlace := ["internal/reflectlite.ValueOf", "(internal/reflectlite.Value).Type", "(internal/reflectlite.Value).IsNil", "internal/reflectlite.TypeOf", "(internal/reflectlite.Value).Elem", "(internal/reflectlite.Value).Set", "internal/abi.NoEscape", "internal/bytealg.MakeNoZero"], unfollowed := true, recurses := true, named := ["errors.errorType", "weirkeep/check.halves"], apart := false, laid := [("weirkeep/check.halves", laid_weirkeep_check_halves), ("errors.errorType", laid_errors_errorType)], narrowed := true }
def StoreValuesUptoSaid : Prop := storeValuesUptoRow.holds Tryz.pinned (OpenSpec.upto storeValuesSpec)

/-- 'weirkeeplaw13.StoreTwice', WHERE WHAT IT READS IS OF BULK AT MOST 1048576: true; the input reads as it did. -/
def storeTwiceUptoRow : OpenClaim := { program := "ytmmpknfkncgjpaagreatdoor", sum := "15e10075c9fffa0e0e3b24857709ba1a30a11c7fc867d84f821e33c791b6a79a", func := "weirkeep/weirkeeplaw13.StoreTwice", spec := "storeTwice", inPlace := ["internal/reflectlite.TypeOf", "internal/abi.NoEscape", "internal/bytealg.MakeNoZero", "internal/reflectlite.ValueOf", "(internal/reflectlite.Value).Type", "(internal/reflectlite.Value).IsNil", "(internal/reflectlite.Value).Elem", "(internal/reflectlite.Value).Set"], unfollowed := true, recurses := true, named := ["weirkeep/check.halves", "errors.errorType"], apart := false, laid := [("weirkeep/check.halves", laid_weirkeep_check_halves), ("errors.errorType", laid_errors_errorType)], narrowed := true }
def StoreTwiceUptoSaid : Prop := storeTwiceUptoRow.holds Tryz.pinned (OpenSpec.upto storeTwiceSpec)

/-- 'weirkeeplaw13.StoreLasts', WHERE WHAT IT READS IS OF BULK AT MOST 1048576: true; the input reads as it did. -/
def storeLastsUptoRow : OpenClaim := { program := "ytmmpknfkncgjpaagreatdoor", sum := "15e10075c9fffa0e0e3b24857709ba1a30a11c7fc867d84f821e33c791b6a79a", func := "weirkeep/weirkeeplaw13.StoreLasts", spec := "storeLasts", inPlace := ["internal/reflectlite.TypeOf", "internal/abi.NoEscape", "internal/bytealg.MakeNoZero", "internal/reflectlite.ValueOf", "(internal/reflectlite.Value).Type", "(internal/reflectlite.Value).IsNil", "(internal/reflectlite.Value).Elem", "(internal/reflectlite.Value).Set"], unfollowed := true, recurses := true, named := ["weirkeep/check.halves", "errors.errorType"], apart := false, laid := [("weirkeep/check.halves", laid_weirkeep_check_halves), ("errors.errorType", laid_errors_errorType)], narrowed := true }
def StoreLastsUptoSaid : Prop := storeLastsUptoRow.holds Tryz.pinned (OpenSpec.upto storeLastsSpec)

/-- 'weirkeeplaw13.StoreFences', WHERE WHAT IT READS IS OF BULK AT MOST 1048576: true; the input reads as it did. -/
def storeFencesUptoRow : OpenClaim := { program := "ytmmpknfkncgjpaagreatdoor", sum := "15e10075c9fffa0e0e3b24857709ba1a30a11c7fc867d84f821e33c791b6a79a", func := "weirkeep/weirkeeplaw13.StoreFences", spec := "storeFences", inPlace := ["internal/reflectlite.TypeOf", "internal/abi.NoEscape", "internal/bytealg.MakeNoZero", "internal/reflectlite.ValueOf", "(internal/reflectlite.Value).Type", "(internal/reflectlite.Value).IsNil", "(internal/reflectlite.Value).Elem", "(internal/reflectlite.Value).Set"], unfollowed := true, recurses := true, named := ["weirkeep/check.halves", "errors.errorType"], apart := false, laid := [("weirkeep/check.halves", laid_weirkeep_check_halves), ("errors.errorType", laid_errors_errorType)], narrowed := true }
def StoreFencesUptoSaid : Prop := storeFencesUptoRow.holds Tryz.pinned (OpenSpec.upto storeFencesSpec)

/-- 'weirkeeplaw13.StoreReads', WHERE WHAT IT READS IS OF BULK AT MOST 1048576: true; the input reads as it did. -/
def storeReadsUptoRow : OpenClaim := { program := "ytmmpknfkncgjpaagreatdoor", sum := "15e10075c9fffa0e0e3b24857709ba1a30a11c7fc867d84f821e33c791b6a79a", func := "weirkeep/weirkeeplaw13.StoreReads", spec := "storeReads", inPlace := ["internal/reflectlite.TypeOf", "internal/abi.NoEscape", "internal/bytealg.MakeNoZero", "internal/reflectlite.ValueOf", "(internal/reflectlite.Value).Type", "(internal/reflectlite.Value).IsNil", "(internal/reflectlite.Value).Elem", "(internal/reflectlite.Value).Set"], unfollowed := true, recurses := true, named := ["weirkeep/check.halves", "errors.errorType"], apart := false, laid := [("weirkeep/check.halves", laid_weirkeep_check_halves), ("errors.errorType", laid_errors_errorType)], narrowed := true }
def StoreReadsUptoSaid : Prop := storeReadsUptoRow.holds Tryz.pinned (OpenSpec.upto storeReadsSpec)

/-- 'weirkeeplaw13.StoreEpochs', WHERE WHAT IT READS IS OF BULK AT MOST 1048576: true; the input reads as it did. -/
def storeEpochsUptoRow : OpenClaim := { program := "ytmmpknfkncgjpaagreatdoor", sum := "15e10075c9fffa0e0e3b24857709ba1a30a11c7fc867d84f821e33c791b6a79a", func := "weirkeep/weirkeeplaw13.StoreEpochs", spec := "storeEpochs", inPlace := ["internal/reflectlite.TypeOf", "internal/abi.NoEscape", "internal/bytealg.MakeNoZero", "internal/reflectlite.ValueOf", "(internal/reflectlite.Value).Type", "(internal/reflectlite.Value).IsNil", "(internal/reflectlite.Value).Elem", "(internal/reflectlite.Value).Set"], unfollowed := true, recurses := true, named := ["weirkeep/check.halves", "errors.errorType"], apart := false, laid := [("weirkeep/check.halves", laid_weirkeep_check_halves), ("errors.errorType", laid_errors_errorType)], narrowed := true }
def StoreEpochsUptoSaid : Prop := storeEpochsUptoRow.holds Tryz.pinned (OpenSpec.upto storeEpochsSpec)

end Rows
end Go.Proofs.YtmmpknfkncgjpaaGreatDoor
