/-
  NARROWER THAN 'FOR EVERY INPUT', by the rows' own cells (each row's printed sentence says how): BallotScript: laid · BallotLoads: laid · BallotNumbers: laid · BallotChooses: laid · BallotOld: laid · BallotSaves: laid.
  DERIVED. THE GIVEN ROWS OF THIS SEAT. 6 by the template 'for every input the law returns true; each argument reads behind the call as it read before'; 0 by the template 'total and deterministic' (their statements: YtacbodojbekeeaaDoorTotals.lean).
  GIVEN WITH THE SEED: the statements are not yours to turn. If you find one false, say at which input.
  Laid BY PROGRAM, IN A SANDBOX (cutbox-rows.mjs): the forced cells as the released guide's own fill.sh prints them over the translation 90b806f70731d0a4… (all of the seat's roots in one cut). By AI agents, Wed Nov 11 2026. No macro, syntax, notation, axiom, sorry.
-/
import Derived.Test.YtacbodojbekeeaaDoorChecked
import GoSem.Claim
import GoSem.ClaimJoined
import GoSem.ClaimMapViews
import Derived.JoinedTies
import Derived.KernelRfl
namespace Go.Proofs.YtacbodojbekeeaaDoor
/- THE CELL 'sum', in the pinned program and in every row, IS THE sha256 OF THE DUMP (.gsa) THAT YtacbodojbekeeaaDoorProg.lean LOADS. Nothing in Lean hashes anything: it is a label: what it is worth is what the hold of that sum in a sandbox is worth. -/
noncomputable def Tryd.pinned : Pinned := { name := "ytacbodojbekeeaadoor", sum := "90b806f70731d0a4f78f7f948246c07eb646ab0b57ada971c0f50dc826709616", checked := Tryd.checked }
namespace Rows
def none {H : Type} : Left H := { results := [], args := [] }

/- WHAT THE LISTED PACKAGE-LEVEL VARIABLES READ AS WHEN THE CALL BEGINS. Each datum BY PROGRAM (the guide's laid-datum.mjs) off the statement by which the dump's own 'gosem.cut.vars' lays the variable. In a bare row this is a premise. The card (YtacbodojbekeeaaDoorCards.lean) ties it to the program's text. -/
def laid_weirkeep_check_halves {H : Type} : DataW H := .agg [.lit (.int .u32 0), .lit (.int .u32 498536548), .lit (.int .u32 997073096), .lit (.int .u32 651767980), .lit (.int .u32 1994146192), .lit (.int .u32 1802195444), .lit (.int .u32 1303535960), .lit (.int .u32 1342533948), .lit (.int .u32 3988292384), .lit (.int .u32 4027552580), .lit (.int .u32 3604390888), .lit (.int .u32 3412177804), .lit (.int .u32 2607071920), .lit (.int .u32 2262029012), .lit (.int .u32 2685067896), .lit (.int .u32 3183342108)]
def laid_errors_errorType {H : Type} : DataW H := .iface "internal/reflectlite.rtype" (.agg [.ptr (.lit (.string [101, 114, 114, 111, 114]))])

/-- 'weirkeeplaw10.BallotScript': WHATEVER THE INPUT: true; the input reads as it did. -/
def ballotScriptSpec : ChangeSpec := { name := "ballotScript", fn := fun _ => fun
  | [d] => { results := [.lit (.bool true)], args := [d] }
  | _ => none }
def ballotScriptRow : OpenClaim := { program := "ytacbodojbekeeaadoor", sum := "90b806f70731d0a4f78f7f948246c07eb646ab0b57ada971c0f50dc826709616", func := "weirkeep/weirkeeplaw10.BallotScript", spec := "ballotScript", inPlace := ["internal/reflectlite.ValueOf", "(internal/reflectlite.Value).Type", "(internal/reflectlite.Value).IsNil", "internal/reflectlite.TypeOf", "(internal/reflectlite.Value).Elem", "(internal/reflectlite.Value).Set"], unfollowed := true, recurses := true, named := ["weirkeep/check.halves", "errors.errorType"], apart := false, laid := [("weirkeep/check.halves", laid_weirkeep_check_halves), ("errors.errorType", laid_errors_errorType)] }
def BallotScriptSaid : Prop := ballotScriptRow.holds Tryd.pinned (OpenSpec.ofChange ballotScriptSpec)

/-- ITS FALSE NEIGHBOUR: 'it returns false'. Refute it at one input. -/
def ballotScriptWrong : ChangeSpec := { name := "ballotScript", fn := fun _ => fun
  | [d] => { results := [.lit (.bool false)], args := [d] }
  | _ => none }
def BallotScriptWrongFalsely : Prop := ballotScriptRow.holds Tryd.pinned (OpenSpec.ofChange ballotScriptWrong)

/-- 'weirkeeplaw10.BallotLoads': WHATEVER THE INPUT: true; the input reads as it did. -/
def ballotLoadsSpec : ChangeSpec := { name := "ballotLoads", fn := fun _ => fun
  | [d] => { results := [.lit (.bool true)], args := [d] }
  | _ => none }
def ballotLoadsRow : OpenClaim := { program := "ytacbodojbekeeaadoor", sum := "90b806f70731d0a4f78f7f948246c07eb646ab0b57ada971c0f50dc826709616", func := "weirkeep/weirkeeplaw10.BallotLoads", spec := "ballotLoads", inPlace := ["internal/reflectlite.ValueOf", "(internal/reflectlite.Value).Type", "(internal/reflectlite.Value).IsNil", "internal/reflectlite.TypeOf", "(internal/reflectlite.Value).Elem", "(internal/reflectlite.Value).Set"], unfollowed := true, recurses := true, named := ["weirkeep/check.halves", "errors.errorType"], apart := false, laid := [("weirkeep/check.halves", laid_weirkeep_check_halves), ("errors.errorType", laid_errors_errorType)] }
def BallotLoadsSaid : Prop := ballotLoadsRow.holds Tryd.pinned (OpenSpec.ofChange ballotLoadsSpec)

/-- ITS FALSE NEIGHBOUR: 'it returns false'. Refute it at one input. -/
def ballotLoadsWrong : ChangeSpec := { name := "ballotLoads", fn := fun _ => fun
  | [d] => { results := [.lit (.bool false)], args := [d] }
  | _ => none }
def BallotLoadsWrongFalsely : Prop := ballotLoadsRow.holds Tryd.pinned (OpenSpec.ofChange ballotLoadsWrong)

/-- 'weirkeeplaw10.BallotNumbers': WHATEVER THE INPUT: true; the input reads as it did. -/
def ballotNumbersSpec : ChangeSpec := { name := "ballotNumbers", fn := fun _ => fun
  | [d1, d2, d3, d4] => { results := [.lit (.bool true)], args := [d1, d2, d3, d4] }
  | _ => none }
def ballotNumbersRow : OpenClaim := { program := "ytacbodojbekeeaadoor", sum := "90b806f70731d0a4f78f7f948246c07eb646ab0b57ada971c0f50dc826709616", func := "weirkeep/weirkeeplaw10.BallotNumbers", spec := "ballotNumbers", inPlace := ["internal/reflectlite.ValueOf", "(internal/reflectlite.Value).Type", "(internal/reflectlite.Value).IsNil", "internal/reflectlite.TypeOf", "(internal/reflectlite.Value).Elem", "(internal/reflectlite.Value).Set"], unfollowed := true, recurses := true, named := ["weirkeep/check.halves", "errors.errorType"], apart := false, laid := [("weirkeep/check.halves", laid_weirkeep_check_halves), ("errors.errorType", laid_errors_errorType)] }
def BallotNumbersSaid : Prop := ballotNumbersRow.holds Tryd.pinned (OpenSpec.ofChange ballotNumbersSpec)

/-- ITS FALSE NEIGHBOUR: 'it returns false'. Refute it at one input. -/
def ballotNumbersWrong : ChangeSpec := { name := "ballotNumbers", fn := fun _ => fun
  | [d1, d2, d3, d4] => { results := [.lit (.bool false)], args := [d1, d2, d3, d4] }
  | _ => none }
def BallotNumbersWrongFalsely : Prop := ballotNumbersRow.holds Tryd.pinned (OpenSpec.ofChange ballotNumbersWrong)

/-- 'weirkeeplaw10.BallotChooses': WHATEVER THE INPUT: true; the input reads as it did. -/
def ballotChoosesSpec : ChangeSpec := { name := "ballotChooses", fn := fun _ => fun
  | [d1, d2] => { results := [.lit (.bool true)], args := [d1, d2] }
  | _ => none }
def ballotChoosesRow : OpenClaim := { program := "ytacbodojbekeeaadoor", sum := "90b806f70731d0a4f78f7f948246c07eb646ab0b57ada971c0f50dc826709616", func := "weirkeep/weirkeeplaw10.BallotChooses", spec := "ballotChooses", inPlace := ["internal/reflectlite.ValueOf", "(internal/reflectlite.Value).Type", "(internal/reflectlite.Value).IsNil", "internal/reflectlite.TypeOf", "(internal/reflectlite.Value).Elem", "(internal/reflectlite.Value).Set"], unfollowed := true, recurses := true, named := ["weirkeep/check.halves", "errors.errorType"], apart := false, laid := [("weirkeep/check.halves", laid_weirkeep_check_halves), ("errors.errorType", laid_errors_errorType)] }
def BallotChoosesSaid : Prop := ballotChoosesRow.holds Tryd.pinned (OpenSpec.ofChange ballotChoosesSpec)

/-- ITS FALSE NEIGHBOUR: 'it returns false'. Refute it at one input. -/
def ballotChoosesWrong : ChangeSpec := { name := "ballotChooses", fn := fun _ => fun
  | [d1, d2] => { results := [.lit (.bool false)], args := [d1, d2] }
  | _ => none }
def BallotChoosesWrongFalsely : Prop := ballotChoosesRow.holds Tryd.pinned (OpenSpec.ofChange ballotChoosesWrong)

/-- 'weirkeeplaw10.BallotOld': WHATEVER THE INPUT: true; the input reads as it did. -/
def ballotOldSpec : ChangeSpec := { name := "ballotOld", fn := fun _ => fun
  | [d1, d2, d3, d4] => { results := [.lit (.bool true)], args := [d1, d2, d3, d4] }
  | _ => none }
def ballotOldRow : OpenClaim := { program := "ytacbodojbekeeaadoor", sum := "90b806f70731d0a4f78f7f948246c07eb646ab0b57ada971c0f50dc826709616", func := "weirkeep/weirkeeplaw10.BallotOld", spec := "ballotOld", inPlace := ["internal/reflectlite.ValueOf", "(internal/reflectlite.Value).Type", "(internal/reflectlite.Value).IsNil", "internal/reflectlite.TypeOf", "(internal/reflectlite.Value).Elem", "(internal/reflectlite.Value).Set"], unfollowed := true, recurses := true, named := ["weirkeep/check.halves", "errors.errorType"], apart := false, laid := [("weirkeep/check.halves", laid_weirkeep_check_halves), ("errors.errorType", laid_errors_errorType)] }
def BallotOldSaid : Prop := ballotOldRow.holds Tryd.pinned (OpenSpec.ofChange ballotOldSpec)

/-- ITS FALSE NEIGHBOUR: 'it returns false'. Refute it at one input. -/
def ballotOldWrong : ChangeSpec := { name := "ballotOld", fn := fun _ => fun
  | [d1, d2, d3, d4] => { results := [.lit (.bool false)], args := [d1, d2, d3, d4] }
  | _ => none }
def BallotOldWrongFalsely : Prop := ballotOldRow.holds Tryd.pinned (OpenSpec.ofChange ballotOldWrong)

/-- 'weirkeeplaw10.BallotSaves': WHATEVER THE INPUT: true; the input reads as it did. -/
def ballotSavesSpec : ChangeSpec := { name := "ballotSaves", fn := fun _ => fun
  | [d1, d2] => { results := [.lit (.bool true)], args := [d1, d2] }
  | _ => none }
def ballotSavesRow : OpenClaim := { program := "ytacbodojbekeeaadoor", sum := "90b806f70731d0a4f78f7f948246c07eb646ab0b57ada971c0f50dc826709616", func := "weirkeep/weirkeeplaw10.BallotSaves", spec := "ballotSaves", inPlace := ["internal/reflectlite.ValueOf", "(internal/reflectlite.Value).Type", "(internal/reflectlite.Value).IsNil", "internal/reflectlite.TypeOf", "(internal/reflectlite.Value).Elem", "(internal/reflectlite.Value).Set"], unfollowed := true, recurses := true, named := ["weirkeep/check.halves", "errors.errorType"], apart := false, laid := [("weirkeep/check.halves", laid_weirkeep_check_halves), ("errors.errorType", laid_errors_errorType)] }
def BallotSavesSaid : Prop := ballotSavesRow.holds Tryd.pinned (OpenSpec.ofChange ballotSavesSpec)

/-- ITS FALSE NEIGHBOUR: 'it returns false'. Refute it at one input. -/
def ballotSavesWrong : ChangeSpec := { name := "ballotSaves", fn := fun _ => fun
  | [d1, d2] => { results := [.lit (.bool false)], args := [d1, d2] }
  | _ => none }
def BallotSavesWrongFalsely : Prop := ballotSavesRow.holds Tryd.pinned (OpenSpec.ofChange ballotSavesWrong)

/- THE SECOND FORM. 'bulk': how many values and letters a reading holds, each counted each time it is reached (what is shared counts as often as it is met; a slice's spare places count too). A statement '..UptoSaid' is the law's where the arguments, and the package variables that the reading takes, are together of bulk at most 1048576: NARROWER than '..Said'. Prove '..Said' where nothing that the law and all that it calls make is longer than what came in: it says more and counts as full. Else prove '..UptoSaid'. A law counts once. -/
mutual
def uptoBulk {H : Type} : DataW H → Nat
  | .lit (.string bytes) => bytes.length + 1
  | .lit _ => 1
  | .nil => 1
  | .ptr d => uptoBulk d + 1
  | .slice elems spare => uptoBulkAll elems + uptoBulkAll spare + 1
  | .agg parts => uptoBulkAll parts + 1
  | .iface _ d => uptoBulk d + 1
  | .map entries => uptoBulkEntries entries + 1
  | .held _ => 1
def uptoBulkAll {H : Type} : List (DataW H) → Nat
  | [] => 0
  | d :: r => uptoBulk d + uptoBulkAll r
def uptoBulkEntries {H : Type} : List (Lit × DataW H) → Nat
  | [] => 0
  | x :: r => uptoBulkEntry x + uptoBulkEntries r
def uptoBulkEntry {H : Type} : Lit × DataW H → Nat
  | (.string bytes, d) => bytes.length + uptoBulk d + 1
  | (_, d) => uptoBulk d + 1
 end
def uptoSmall : (H : Type) → List (DataW H) → Bool := fun _ ds => decide (uptoBulkAll ds ≤ 1048576)
def OpenSpec.upto (s : _root_.Go.ChangeSpec) : _root_.Go.OpenSpec := { _root_.Go.OpenSpec.ofChange s with cond := some uptoSmall }

/-- 'weirkeeplaw10.BallotScript', WHERE WHAT IT READS IS OF BULK AT MOST 1048576: true; the input reads as it did. -/
def ballotScriptUptoRow : OpenClaim := { program := "ytacbodojbekeeaadoor", sum := "90b806f70731d0a4f78f7f948246c07eb646ab0b57ada971c0f50dc826709616", func := "weirkeep/weirkeeplaw10.BallotScript", spec := "ballotScript", inPlace := ["internal/reflectlite.ValueOf", "(internal/reflectlite.Value).Type", "(internal/reflectlite.Value).IsNil", "internal/reflectlite.TypeOf", "(internal/reflectlite.Value).Elem", "(internal/reflectlite.Value).Set"], unfollowed := true, recurses := true, named := ["weirkeep/check.halves", "errors.errorType"], apart := false, laid := [("weirkeep/check.halves", laid_weirkeep_check_halves), ("errors.errorType", laid_errors_errorType)], narrowed := true }
def BallotScriptUptoSaid : Prop := ballotScriptUptoRow.holds Tryd.pinned (OpenSpec.upto ballotScriptSpec)

/-- 'weirkeeplaw10.BallotLoads', WHERE WHAT IT READS IS OF BULK AT MOST 1048576: true; the input reads as it did. -/
def ballotLoadsUptoRow : OpenClaim := { program := "ytacbodojbekeeaadoor", sum := "90b806f70731d0a4f78f7f948246c07eb646ab0b57ada971c0f50dc826709616", func := "weirkeep/weirkeeplaw10.BallotLoads", spec := "ballotLoads", inPlace := ["internal/reflectlite.ValueOf", "(internal/reflectlite.Value).Type", "(internal/reflectlite.Value).IsNil", "internal/reflectlite.TypeOf", "(internal/reflectlite.Value).Elem", "(internal/reflectlite.Value).Set"], unfollowed := true, recurses := true, named := ["weirkeep/check.halves", "errors.errorType"], apart := false, laid := [("weirkeep/check.halves", laid_weirkeep_check_halves), ("errors.errorType", laid_errors_errorType)], narrowed := true }
def BallotLoadsUptoSaid : Prop := ballotLoadsUptoRow.holds Tryd.pinned (OpenSpec.upto ballotLoadsSpec)

/-- 'weirkeeplaw10.BallotNumbers', WHERE WHAT IT READS IS OF BULK AT MOST 1048576: true; the input reads as it did. -/
def ballotNumbersUptoRow : OpenClaim := { program := "ytacbodojbekeeaadoor", sum := "90b806f70731d0a4f78f7f948246c07eb646ab0b57ada971c0f50dc826709616", func := "weirkeep/weirkeeplaw10.BallotNumbers", spec := "ballotNumbers", inPlace := ["internal/reflectlite.ValueOf", "(internal/reflectlite.Value).Type", "(internal/reflectlite.Value).IsNil", "internal/reflectlite.TypeOf", "(internal/reflectlite.Value).Elem", "(internal/reflectlite.Value).Set"], unfollowed := true, recurses := true, named := ["weirkeep/check.halves", "errors.errorType"], apart := false, laid := [("weirkeep/check.halves", laid_weirkeep_check_halves), ("errors.errorType", laid_errors_errorType)], narrowed := true }
def BallotNumbersUptoSaid : Prop := ballotNumbersUptoRow.holds Tryd.pinned (OpenSpec.upto ballotNumbersSpec)

/-- 'weirkeeplaw10.BallotChooses', WHERE WHAT IT READS IS OF BULK AT MOST 1048576: true; the input reads as it did. -/
def ballotChoosesUptoRow : OpenClaim := { program := "ytacbodojbekeeaadoor", sum := "90b806f70731d0a4f78f7f948246c07eb646ab0b57ada971c0f50dc826709616", func := "weirkeep/weirkeeplaw10.BallotChooses", spec := "ballotChooses", inPlace := ["internal/reflectlite.ValueOf", "(internal/reflectlite.Value).Type", "(internal/reflectlite.Value).IsNil", "internal/reflectlite.TypeOf", "(internal/reflectlite.Value).Elem", "(internal/reflectlite.Value).Set"], unfollowed := true, recurses := true, named := ["weirkeep/check.halves", "errors.errorType"], apart := false, laid := [("weirkeep/check.halves", laid_weirkeep_check_halves), ("errors.errorType", laid_errors_errorType)], narrowed := true }
def BallotChoosesUptoSaid : Prop := ballotChoosesUptoRow.holds Tryd.pinned (OpenSpec.upto ballotChoosesSpec)

/-- 'weirkeeplaw10.BallotOld', WHERE WHAT IT READS IS OF BULK AT MOST 1048576: true; the input reads as it did. -/
def ballotOldUptoRow : OpenClaim := { program := "ytacbodojbekeeaadoor", sum := "90b806f70731d0a4f78f7f948246c07eb646ab0b57ada971c0f50dc826709616", func := "weirkeep/weirkeeplaw10.BallotOld", spec := "ballotOld", inPlace := ["internal/reflectlite.ValueOf", "(internal/reflectlite.Value).Type", "(internal/reflectlite.Value).IsNil", "internal/reflectlite.TypeOf", "(internal/reflectlite.Value).Elem", "(internal/reflectlite.Value).Set"], unfollowed := true, recurses := true, named := ["weirkeep/check.halves", "errors.errorType"], apart := false, laid := [("weirkeep/check.halves", laid_weirkeep_check_halves), ("errors.errorType", laid_errors_errorType)], narrowed := true }
def BallotOldUptoSaid : Prop := ballotOldUptoRow.holds Tryd.pinned (OpenSpec.upto ballotOldSpec)

/-- 'weirkeeplaw10.BallotSaves', WHERE WHAT IT READS IS OF BULK AT MOST 1048576: true; the input reads as it did. -/
def ballotSavesUptoRow : OpenClaim := { program := "ytacbodojbekeeaadoor", sum := "90b806f70731d0a4f78f7f948246c07eb646ab0b57ada971c0f50dc826709616", func := "weirkeep/weirkeeplaw10.BallotSaves", spec := "ballotSaves", inPlace := ["internal/reflectlite.ValueOf", "(internal/reflectlite.Value).Type", "(internal/reflectlite.Value).IsNil", "internal/reflectlite.TypeOf", "(internal/reflectlite.Value).Elem", "(internal/reflectlite.Value).Set"], unfollowed := true, recurses := true, named := ["weirkeep/check.halves", "errors.errorType"], apart := false, laid := [("weirkeep/check.halves", laid_weirkeep_check_halves), ("errors.errorType", laid_errors_errorType)], narrowed := true }
def BallotSavesUptoSaid : Prop := ballotSavesUptoRow.holds Tryd.pinned (OpenSpec.upto ballotSavesSpec)

end Rows
end Go.Proofs.YtacbodojbekeeaaDoor
