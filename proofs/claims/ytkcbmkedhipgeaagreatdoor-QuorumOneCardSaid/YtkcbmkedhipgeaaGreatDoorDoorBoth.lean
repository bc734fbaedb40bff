/-
  What the two listed variables' condition gives: check.halves lies as it is written out, errors.errorType holds the handle of 'error'; a world that meets the condition.
-/
import Derived.Test.YtkcbmkedhipgeaaGreatDoorRows
import Derived.Test.YtkcbmkedhipgeaaGreatDoorCards
import Derived.Test.YtkcbmkedhipgeaaGreatDoorTie
import Derived.Test.YtkcbmkedhipgeaaGreatDoorChain
import Derived.Test.YtkcbmkedhipgeaaGreatDoorOpened
import Derived.ChangeSame
import Derived.ChangeVars
import Derived.JoinedOf
import Derived.RowKit
import Derived.RowKitTokens
import Derived.LaidLaws
import Derived.LaidHandle
import Derived.LaidMore
import Derived.MakeChecks
import Derived.Stop.Joined
import Derived.SevenTiedAt
import Derived.OpenShut
import Derived.ProofKit
namespace Go.Proofs.YtkcbmkedhipgeaaGreatDoor
open Go.ChangeShapes Go.WideShapes Go.RowKit

theorem ownK : ownKnob Tryz.prog.godebug = none := by kernel_rfl
theorem tabK : Tryz.prog.globalNamed "weirkeep/check.halves" = some 0 := by kernel_rfl
theorem tabTypeK : (Tryz.prog.globals[0]?).map (·.type) = some 164 := by kernel_rfl
theorem tabEq : (Rows.laid_weirkeep_check_halves : DataW Unit) = Lib.tabData .u32 (tabL.map (fun n : Nat => (n : Int))) := rfl
theorem etK : Tryz.prog.globalNamed "errors.errorType" = some 1 := by kernel_rfl
theorem rtK : (Tryz.prog.cutTypes.find? (·.1 == "internal/reflectlite.rtype")).map (·.2) = some 192 := by kernel_rfl
theorem oneRowK : ((List.range Tryz.prog.types.size).filter fun t => Tryz.prog.rowNamed t [101, 114, 114, 111, 114]) = [114] := by kernel_rfl

/-- What the condition gives a walk. -/
theorem both_of_laid {W : World} (h : laidMetH Tryz.prog [("weirkeep/check.halves", Rows.laid_weirkeep_check_halves), ("errors.errorType", Rows.laid_errors_errorType)] W) : Tab W ∧ ErrType W := by
  have h' : laidMet Tryz.prog [("weirkeep/check.halves", Rows.laid_weirkeep_check_halves)] W ∧ handlesMet Tryz.prog [("errors.errorType", Rows.laid_errors_errorType)] W := h
  refine ⟨?_, ?_⟩
  · have h1 := h'.1
    rw [tabEq] at h1
    have hT := Lib.tabIs_of_head tabK tabTypeK Tryz.underlying164 Tryz.underlying145 (by kernel_rfl) (by kernel_rfl) h1
    intro i hi
    have hc := hT.cell tabK i (by simpa [tabL] using hi)
    rw [hc]
    have hl : i < tabL.length := by simpa [tabL] using hi
    simp [tabH, List.getD, hl]
  · obtain ⟨name, u, ty, e1, e2, e3, e4, e5⟩ := h'.2 _ (List.mem_singleton.2 rfl)
    have en : name = [101, 114, 114, 111, 114] := (Option.some.inj e1).symm
    subst en
    obtain rfl := Option.some.inj (rtK.symm.trans e2)
    have hm : ty ∈ (List.range Tryz.prog.types.size).filter fun t => Tryz.prog.rowNamed t [101, 114, 114, 111, 114] := List.mem_filter.2 ⟨List.mem_range.2 e3, e4⟩
    rw [oneRowK] at hm
    obtain rfl := List.mem_singleton.1 hm
    have hh : typeHandle Tryz.prog 114 = .pointer (some ⟨2, 114, none⟩) := by kernel_rfl
    rw [hh] at e5
    simpa [ErrType] using World.var?_cell etK e5 0

/-- The door's own heap meets the condition. -/
theorem doorBoth_met (os : Os) (args : Array Value) : laidMetH Tryz.prog [("weirkeep/check.halves", Rows.laid_weirkeep_check_halves), ("errors.errorType", Rows.laid_errors_errorType)] ((World.doorLaid Tryz.prog 400 os).forCall (fun _ _ => 0) ⟨#[], args, []⟩).memory :=
  laidMetH_of_parts3 (fuel := 8) (laidMet_of_run' 8 (by kernel_rfl) (by kernel_rfl)) (by kernel_rfl) (by kernel_rfl)
end Go.Proofs.YtkcbmkedhipgeaaGreatDoor
