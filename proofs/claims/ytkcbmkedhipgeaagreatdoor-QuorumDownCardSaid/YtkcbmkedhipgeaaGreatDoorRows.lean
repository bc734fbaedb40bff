/-
  NARROWER THAN 'FOR EVERY INPUT', by the rows' own cells (each row's printed sentence says how): QuorumScript: laid · QuorumOne: laid · QuorumGoes: laid · QuorumMinority: laid · QuorumLearns: laid · QuorumDown: laid.
  DERIVED. THE GIVEN ROWS OF THIS SEAT. 6 by the template 'for every input the law returns true; each argument reads behind the call as it read before'; 0 by the template 'total and deterministic' (their statements: YtkcbmkedhipgeaaGreatDoorTotals.lean).
  GIVEN WITH THE SEED: the statements are not yours to turn. If you find one false, say at which input.
  Laid BY PROGRAM, IN A SANDBOX (cutbox-rows.mjs): the forced cells as the released guide's own fill.sh prints them over the translation 10ac65d57615c389… (all of the seat's roots in one cut). By AI agents, Wed Nov 11 2026. No macro, syntax, notation, axiom, sorry.
-/
import Derived.Test.YtkcbmkedhipgeaaGreatDoorChecked
import GoSem.Claim
import GoSem.ClaimJoined
import GoSem.ClaimMapViews
import Derived.JoinedTies
import Derived.KernelRfl
namespace Go.Proofs.YtkcbmkedhipgeaaGreatDoor
/- THE CELL 'sum', in the pinned program and in every row, IS THE sha256 OF THE DUMP (.gsa) THAT YtkcbmkedhipgeaaGreatDoorProg.lean LOADS. Nothing in Lean hashes anything: it is a label: what it is worth is what the hold of that sum in a sandbox is worth. -/
noncomputable def Tryz.pinned : Pinned := { name := "ytkcbmkedhipgeaagreatdoor", sum := "10ac65d57615c389ba71f74e9ebdf3d8530cb97add1efd0fd0f240c89c32cb3b", checked := Tryz.checked }
namespace Rows
def none {H : Type} : Left H := { results := [], args := [] }

/- WHAT THE LISTED PACKAGE-LEVEL VARIABLES READ AS WHEN THE CALL BEGINS. Each datum BY PROGRAM (the guide's laid-datum.mjs) off the statement by which the dump's own 'gosem.cut.vars' lays the variable. In a bare row this is a premise. The card (YtkcbmkedhipgeaaGreatDoorCards.lean) ties it to the program's text. -/
def laid_weirkeep_check_halves {H : Type} : DataW H := .agg [.lit (.int .u32 0), .lit (.int .u32 498536548), .lit (.int .u32 997073096), .lit (.int .u32 651767980), .lit (.int .u32 1994146192), .lit (.int .u32 1802195444), .lit (.int .u32 1303535960), .lit (.int .u32 1342533948), .lit (.int .u32 3988292384), .lit (.int .u32 4027552580), .lit (.int .u32 3604390888), .lit (.int .u32 3412177804), .lit (.int .u32 2607071920), .lit (.int .u32 2262029012), .lit (.int .u32 2685067896), .lit (.int .u32 3183342108)]
def laid_errors_errorType {H : Type} : DataW H := .iface "internal/reflectlite.rtype" (.agg [.ptr (.lit (.string [101, 114, 114, 111, 114]))])

/-- 'weirkeeplaw11.QuorumScript': WHATEVER THE INPUT: true; the input reads as it did. -/
def quorumScriptSpec : ChangeSpec := { name := "quorumScript", fn := fun _ => fun
  | [d1, d2] => { results := [.lit (.bool true)], args := [d1, d2] }
  | _ => none }
def quorumScriptRow : OpenClaim := { program := "ytkcbmkedhipgeaagreatdoor", sum := "10ac65d57615c389ba71f74e9ebdf3d8530cb97add1efd0fd0f240c89c32cb3b", func := "weirkeep/weirkeeplaw11.QuorumScript", spec := "quorumScript", inPlace := ["internal/reflectlite.ValueOf", "(internal/reflectlite.Value).Type", "(internal/reflectlite.Value).IsNil", "internal/reflectlite.TypeOf", "(internal/reflectlite.Value).Elem", "(internal/reflectlite.Value).Set"], unfollowed := true, recurses := true, named := ["weirkeep/check.halves", "errors.errorType"], plainKeys := false, apart := false, laid := [("weirkeep/check.halves", laid_weirkeep_check_halves), ("errors.errorType", laid_errors_errorType)] }
def QuorumScriptSaid : Prop := quorumScriptRow.holds Tryz.pinned (OpenSpec.ofChange quorumScriptSpec)

/-- ITS FALSE NEIGHBOUR: 'it returns false'. Refute it at one input. -/
def quorumScriptWrong : ChangeSpec := { name := "quorumScript", fn := fun _ => fun
  | [d1, d2] => { results := [.lit (.bool false)], args := [d1, d2] }
  | _ => none }
def QuorumScriptWrongFalsely : Prop := quorumScriptRow.holds Tryz.pinned (OpenSpec.ofChange quorumScriptWrong)

/-- 'weirkeeplaw11.QuorumOne': WHATEVER THE INPUT: true; the input reads as it did. -/
def quorumOneSpec : ChangeSpec := { name := "quorumOne", fn := fun _ => fun
  | [d1, d2] => { results := [.lit (.bool true)], args := [d1, d2] }
  | _ => none }
def quorumOneRow : OpenClaim := { program := "ytkcbmkedhipgeaagreatdoor", sum := "10ac65d57615c389ba71f74e9ebdf3d8530cb97add1efd0fd0f240c89c32cb3b", func := "weirkeep/weirkeeplaw11.QuorumOne", spec := "quorumOne", inPlace := ["internal/reflectlite.ValueOf", "(internal/reflectlite.Value).Type", "(internal/reflectlite.Value).IsNil", "internal/reflectlite.TypeOf", "(internal/reflectlite.Value).Elem", "(internal/reflectlite.Value).Set"], unfollowed := true, recurses := true, named := ["weirkeep/check.halves", "errors.errorType"], plainKeys := false, apart := false, laid := [("weirkeep/check.halves", laid_weirkeep_check_halves), ("errors.errorType", laid_errors_errorType)] }
def QuorumOneSaid : Prop := quorumOneRow.holds Tryz.pinned (OpenSpec.ofChange quorumOneSpec)

/-- ITS FALSE NEIGHBOUR: 'it returns false'. Refute it at one input. -/
def quorumOneWrong : ChangeSpec := { name := "quorumOne", fn := fun _ => fun
  | [d1, d2] => { results := [.lit (.bool false)], args := [d1, d2] }
  | _ => none }
def QuorumOneWrongFalsely : Prop := quorumOneRow.holds Tryz.pinned (OpenSpec.ofChange quorumOneWrong)

/-- 'weirkeeplaw11.QuorumGoes': WHATEVER THE INPUT: true; the input reads as it did. -/
def quorumGoesSpec : ChangeSpec := { name := "quorumGoes", fn := fun _ => fun
  | [d1, d2, d3, d4] => { results := [.lit (.bool true)], args := [d1, d2, d3, d4] }
  | _ => none }
def quorumGoesRow : OpenClaim := { program := "ytkcbmkedhipgeaagreatdoor", sum := "10ac65d57615c389ba71f74e9ebdf3d8530cb97add1efd0fd0f240c89c32cb3b", func := "weirkeep/weirkeeplaw11.QuorumGoes", spec := "quorumGoes", inPlace := ["internal/reflectlite.ValueOf", "(internal/reflectlite.Value).Type", "(internal/reflectlite.Value).IsNil", "internal/reflectlite.TypeOf", "(internal/reflectlite.Value).Elem", "(internal/reflectlite.Value).Set"], unfollowed := true, recurses := true, named := ["weirkeep/check.halves", "errors.errorType"], plainKeys := false, apart := false, laid := [("weirkeep/check.halves", laid_weirkeep_check_halves), ("errors.errorType", laid_errors_errorType)] }
def QuorumGoesSaid : Prop := quorumGoesRow.holds Tryz.pinned (OpenSpec.ofChange quorumGoesSpec)

/-- ITS FALSE NEIGHBOUR: 'it returns false'. Refute it at one input. -/
def quorumGoesWrong : ChangeSpec := { name := "quorumGoes", fn := fun _ => fun
  | [d1, d2, d3, d4] => { results := [.lit (.bool false)], args := [d1, d2, d3, d4] }
  | _ => none }
def QuorumGoesWrongFalsely : Prop := quorumGoesRow.holds Tryz.pinned (OpenSpec.ofChange quorumGoesWrong)

/-- 'weirkeeplaw11.QuorumMinority': WHATEVER THE INPUT: true; the input reads as it did. -/
def quorumMinoritySpec : ChangeSpec := { name := "quorumMinority", fn := fun _ => fun
  | [d1, d2, d3, d4] => { results := [.lit (.bool true)], args := [d1, d2, d3, d4] }
  | _ => none }
def quorumMinorityRow : OpenClaim := { program := "ytkcbmkedhipgeaagreatdoor", sum := "10ac65d57615c389ba71f74e9ebdf3d8530cb97add1efd0fd0f240c89c32cb3b", func := "weirkeep/weirkeeplaw11.QuorumMinority", spec := "quorumMinority", inPlace := ["internal/reflectlite.ValueOf", "(internal/reflectlite.Value).Type", "(internal/reflectlite.Value).IsNil", "internal/reflectlite.TypeOf", "(internal/reflectlite.Value).Elem", "(internal/reflectlite.Value).Set"], unfollowed := true, recurses := true, named := ["weirkeep/check.halves", "errors.errorType"], plainKeys := false, apart := false, laid := [("weirkeep/check.halves", laid_weirkeep_check_halves), ("errors.errorType", laid_errors_errorType)] }
def QuorumMinoritySaid : Prop := quorumMinorityRow.holds Tryz.pinned (OpenSpec.ofChange quorumMinoritySpec)

/-- ITS FALSE NEIGHBOUR: 'it returns false'. Refute it at one input. -/
def quorumMinorityWrong : ChangeSpec := { name := "quorumMinority", fn := fun _ => fun
  | [d1, d2, d3, d4] => { results := [.lit (.bool false)], args := [d1, d2, d3, d4] }
  | _ => none }
def QuorumMinorityWrongFalsely : Prop := quorumMinorityRow.holds Tryz.pinned (OpenSpec.ofChange quorumMinorityWrong)

/-- 'weirkeeplaw11.QuorumLearns': WHATEVER THE INPUT: true; the input reads as it did. -/
def quorumLearnsSpec : ChangeSpec := { name := "quorumLearns", fn := fun _ => fun
  | [d1, d2, d3, d4] => { results := [.lit (.bool true)], args := [d1, d2, d3, d4] }
  | _ => none }
def quorumLearnsRow : OpenClaim := { program := "ytkcbmkedhipgeaagreatdoor", sum := "10ac65d57615c389ba71f74e9ebdf3d8530cb97add1efd0fd0f240c89c32cb3b", func := "weirkeep/weirkeeplaw11.QuorumLearns", spec := "quorumLearns", inPlace := ["internal/reflectlite.ValueOf", "(internal/reflectlite.Value).Type", "(internal/reflectlite.Value).IsNil", "internal/reflectlite.TypeOf", "(internal/reflectlite.Value).Elem", "(internal/reflectlite.Value).Set"], unfollowed := true, recurses := true, named := ["weirkeep/check.halves", "errors.errorType"], plainKeys := false, apart := false, laid := [("weirkeep/check.halves", laid_weirkeep_check_halves), ("errors.errorType", laid_errors_errorType)] }
def QuorumLearnsSaid : Prop := quorumLearnsRow.holds Tryz.pinned (OpenSpec.ofChange quorumLearnsSpec)

/-- ITS FALSE NEIGHBOUR: 'it returns false'. Refute it at one input. -/
def quorumLearnsWrong : ChangeSpec := { name := "quorumLearns", fn := fun _ => fun
  | [d1, d2, d3, d4] => { results := [.lit (.bool false)], args := [d1, d2, d3, d4] }
  | _ => none }
def QuorumLearnsWrongFalsely : Prop := quorumLearnsRow.holds Tryz.pinned (OpenSpec.ofChange quorumLearnsWrong)

/-- 'weirkeeplaw11.QuorumDown': WHATEVER THE INPUT: true; the input reads as it did. -/
def quorumDownSpec : ChangeSpec := { name := "quorumDown", fn := fun _ => fun
  | [d1, d2, d3] => { results := [.lit (.bool true)], args := [d1, d2, d3] }
  | _ => none }
def quorumDownRow : OpenClaim := { program := "ytkcbmkedhipgeaagreatdoor", sum := "10ac65d57615c389ba71f74e9ebdf3d8530cb97add1efd0fd0f240c89c32cb3b", func := "weirkeep/weirkeeplaw11.QuorumDown", spec := "quorumDown", inPlace := ["internal/reflectlite.ValueOf", "(internal/reflectlite.Value).Type", "(internal/reflectlite.Value).IsNil", "internal/reflectlite.TypeOf", "(internal/reflectlite.Value).Elem", "(internal/reflectlite.Value).Set"], unfollowed := true, recurses := true, named := ["weirkeep/check.halves", "errors.errorType"], plainKeys := false, apart := false, laid := [("weirkeep/check.halves", laid_weirkeep_check_halves), ("errors.errorType", laid_errors_errorType)] }
def QuorumDownSaid : Prop := quorumDownRow.holds Tryz.pinned (OpenSpec.ofChange quorumDownSpec)

/-- ITS FALSE NEIGHBOUR: 'it returns false'. Refute it at one input. -/
def quorumDownWrong : ChangeSpec := { name := "quorumDown", fn := fun _ => fun
  | [d1, d2, d3] => { results := [.lit (.bool false)], args := [d1, d2, d3] }
  | _ => none }
def QuorumDownWrongFalsely : Prop := quorumDownRow.holds Tryz.pinned (OpenSpec.ofChange quorumDownWrong)

/- THE SECOND FORM. 'bulk': how many values and letters a reading holds, each counted each time it is reached (what is shared counts as often as it is met; a slice's spare places count too). A statement '..UptoSaid' is the law's where the arguments, and the package variables that the reading takes, are together of bulk at most 1048576: NARROWER than '..Said'. Prove '..Said' where nothing that the law and all that it calls make is longer than what came in: it says more and counts as full. Else prove '..UptoSaid'. A law counts once. -/
mutual
def uptoBulk {H : Type} : DataW H → Nat
  | .lit (.string bytes) => bytes.length + 1
  | .lit _ => 1
  | .nil => 1
  | .ptr d => uptoBulk d + 1
  | .slice elems spare => uptoBulkAll elems + uptoBulkAll spare + 1
  | .agg parts => uptoBulkAll parts + 1
  | .iface _ d => uptoBulk d + 1
  | .map entries => uptoBulkEntries entries + 1
  | .held _ => 1
def uptoBulkAll {H : Type} : List (DataW H) → Nat
  | [] => 0
  | d :: r => uptoBulk d + uptoBulkAll r
def uptoBulkEntries {H : Type} : List (Lit × DataW H) → Nat
  | [] => 0
  | x :: r => uptoBulkEntry x + uptoBulkEntries r
def uptoBulkEntry {H : Type} : Lit × DataW H → Nat
  | (.string bytes, d) => bytes.length + uptoBulk d + 1
  | (_, d) => uptoBulk d + 1
 end
def uptoSmall : (H : Type) → List (DataW H) → Bool := fun _ ds => decide (uptoBulkAll ds ≤ 1048576)
def OpenSpec.upto (s : _root_.Go.ChangeSpec) : _root_.Go.OpenSpec := { _root_.Go.OpenSpec.ofChange s with cond := some uptoSmall }

/-- 'weirkeeplaw11.QuorumScript', WHERE WHAT IT READS IS OF BULK AT MOST 1048576: true; the input reads as it did. -/
def quorumScriptUptoRow : OpenClaim := { program := "ytkcbmkedhipgeaagreatdoor", sum := "10ac65d57615c389ba71f74e9ebdf3d8530cb97add1efd0fd0f240c89c32cb3b", func := "weirkeep/weirkeeplaw11.QuorumScript", spec := "quorumScript", inPlace := ["internal/reflectlite.ValueOf", "(internal/reflectlite.Value).Type", "(internal/reflectlite.Value).IsNil", "internal/reflectlite.TypeOf", "(internal/reflectlite.Value).Elem", "(internal/reflectlite.Value).Set"], unfollowed := true, recurses := true, named := ["weirkeep/check.halves", "errors.errorType"], plainKeys := false, apart := false, laid := [("weirkeep/check.halves", laid_weirkeep_check_halves), ("errors.errorType", laid_errors_errorType)], narrowed := true }
def QuorumScriptUptoSaid : Prop := quorumScriptUptoRow.holds Tryz.pinned (OpenSpec.upto quorumScriptSpec)

/-- 'weirkeeplaw11.QuorumOne', WHERE WHAT IT READS IS OF BULK AT MOST 1048576: true; the input reads as it did. -/
def quorumOneUptoRow : OpenClaim := { program := "ytkcbmkedhipgeaagreatdoor", sum := "10ac65d57615c389ba71f74e9ebdf3d8530cb97add1efd0fd0f240c89c32cb3b", func := "weirkeep/weirkeeplaw11.QuorumOne", spec := "quorumOne", inPlace := ["internal/reflectlite.ValueOf", "(internal/reflectlite.Value).Type", "(internal/reflectlite.Value).IsNil", "internal/reflectlite.TypeOf", "(internal/reflectlite.Value).Elem", "(internal/reflectlite.Value).Set"], unfollowed := true, recurses := true, named := ["weirkeep/check.halves", "errors.errorType"], plainKeys := false, apart := false, laid := [("weirkeep/check.halves", laid_weirkeep_check_halves), ("errors.errorType", laid_errors_errorType)], narrowed := true }
def QuorumOneUptoSaid : Prop := quorumOneUptoRow.holds Tryz.pinned (OpenSpec.upto quorumOneSpec)

/-- 'weirkeeplaw11.QuorumGoes', WHERE WHAT IT READS IS OF BULK AT MOST 1048576: true; the input reads as it did. -/
def quorumGoesUptoRow : OpenClaim := { program := "ytkcbmkedhipgeaagreatdoor", sum := "10ac65d57615c389ba71f74e9ebdf3d8530cb97add1efd0fd0f240c89c32cb3b", func := "weirkeep/weirkeeplaw11.QuorumGoes", spec := "quorumGoes", inPlace := ["internal/reflectlite.ValueOf", "(internal/reflectlite.Value).Type", "(internal/reflectlite.Value).IsNil", "internal/reflectlite.TypeOf", "(internal/reflectlite.Value).Elem", "(internal/reflectlite.Value).Set"], unfollowed := true, recurses := true, named := ["weirkeep/check.halves", "errors.errorType"], plainKeys := false, apart := false, laid := [("weirkeep/check.halves", laid_weirkeep_check_halves), ("errors.errorType", laid_errors_errorType)], narrowed := true }
def QuorumGoesUptoSaid : Prop := quorumGoesUptoRow.holds Tryz.pinned (OpenSpec.upto quorumGoesSpec)

/-- 'weirkeeplaw11.QuorumMinority', WHERE WHAT IT READS IS OF BULK AT MOST 1048576: true; the input reads as it did. -/
def quorumMinorityUptoRow : OpenClaim := { program := "ytkcbmkedhipgeaagreatdoor", sum := "10ac65d57615c389ba71f74e9ebdf3d8530cb97add1efd0fd0f240c89c32cb3b", func := "weirkeep/weirkeeplaw11.QuorumMinority", spec := "quorumMinority", inPlace := ["internal/reflectlite.ValueOf", "(internal/reflectlite.Value).Type", "(internal/reflectlite.Value).IsNil", "internal/reflectlite.TypeOf", "(internal/reflectlite.Value).Elem", "(internal/reflectlite.Value).Set"], unfollowed := true, recurses := true, named := ["weirkeep/check.halves", "errors.errorType"], plainKeys := false, apart := false, laid := [("weirkeep/check.halves", laid_weirkeep_check_halves), ("errors.errorType", laid_errors_errorType)], narrowed := true }
def QuorumMinorityUptoSaid : Prop := quorumMinorityUptoRow.holds Tryz.pinned (OpenSpec.upto quorumMinoritySpec)

/-- 'weirkeeplaw11.QuorumLearns', WHERE WHAT IT READS IS OF BULK AT MOST 1048576: true; the input reads as it did. -/
def quorumLearnsUptoRow : OpenClaim := { program := "ytkcbmkedhipgeaagreatdoor", sum := "10ac65d57615c389ba71f74e9ebdf3d8530cb97add1efd0fd0f240c89c32cb3b", func := "weirkeep/weirkeeplaw11.QuorumLearns", spec := "quorumLearns", inPlace := ["internal/reflectlite.ValueOf", "(internal/reflectlite.Value).Type", "(internal/reflectlite.Value).IsNil", "internal/reflectlite.TypeOf", "(internal/reflectlite.Value).Elem", "(internal/reflectlite.Value).Set"], unfollowed := true, recurses := true, named := ["weirkeep/check.halves", "errors.errorType"], plainKeys := false, apart := false, laid := [("weirkeep/check.halves", laid_weirkeep_check_halves), ("errors.errorType", laid_errors_errorType)], narrowed := true }
def QuorumLearnsUptoSaid : Prop := quorumLearnsUptoRow.holds Tryz.pinned (OpenSpec.upto quorumLearnsSpec)

/-- 'weirkeeplaw11.QuorumDown', WHERE WHAT IT READS IS OF BULK AT MOST 1048576: true; the input reads as it did. -/
def quorumDownUptoRow : OpenClaim := { program := "ytkcbmkedhipgeaagreatdoor", sum := "10ac65d57615c389ba71f74e9ebdf3d8530cb97add1efd0fd0f240c89c32cb3b", func := "weirkeep/weirkeeplaw11.QuorumDown", spec := "quorumDown", inPlace := ["internal/reflectlite.ValueOf", "(internal/reflectlite.Value).Type", "(internal/reflectlite.Value).IsNil", "internal/reflectlite.TypeOf", "(internal/reflectlite.Value).Elem", "(internal/reflectlite.Value).Set"], unfollowed := true, recurses := true, named := ["weirkeep/check.halves", "errors.errorType"], plainKeys := false, apart := false, laid := [("weirkeep/check.halves", laid_weirkeep_check_halves), ("errors.errorType", laid_errors_errorType)], narrowed := true }
def QuorumDownUptoSaid : Prop := quorumDownUptoRow.holds Tryz.pinned (OpenSpec.upto quorumDownSpec)

end Rows
end Go.Proofs.YtkcbmkedhipgeaaGreatDoor
