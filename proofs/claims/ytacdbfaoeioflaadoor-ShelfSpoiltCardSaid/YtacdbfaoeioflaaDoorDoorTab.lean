/-
  What the listed variable's condition gives: the table check.halves lies as it is written out; a world that meets the condition.
-/
import Derived.Test.YtacdbfaoeioflaaDoorRows
import Derived.Test.YtacdbfaoeioflaaDoorCards
import Derived.Test.YtacdbfaoeioflaaDoorTie
import Derived.Test.YtacdbfaoeioflaaDoorTake
import Derived.ChangeSame
import Derived.ChangeVars
import Derived.JoinedOf
import Derived.RowKit
import Derived.RowKitTokens
import Derived.LaidLaws
import Derived.LaidHandle
import Derived.LaidMore
import Derived.MakeChecks
import Derived.Stop.Joined
import Derived.SevenTiedAt
import Derived.OpenShut
import Derived.ProofKit
namespace Go.Proofs.YtacdbfaoeioflaaDoor
open Go.ChangeShapes Go.WideShapes Go.RowKit

theorem ownK : ownKnob Tryd.prog.godebug = none := by kernel_rfl
theorem tabK : Tryd.prog.globalNamed "weirkeep/check.halves" = some 1 := by kernel_rfl
theorem tabTypeK : (Tryd.prog.globals[1]?).map (·.type) = some 152 := by kernel_rfl
theorem tabEq : (Rows.laid_weirkeep_check_halves : DataW Unit) = Lib.tabData .u32 (tabL.map (fun n : Nat => (n : Int))) := rfl

/-- What the condition gives a walk. -/
theorem tab_of_laid {W : World} (h : laidMetH Tryd.prog [("weirkeep/check.halves", Rows.laid_weirkeep_check_halves)] W) : Tab W := by
  rw [MakeChecks.laidMetH_plain _ _ _ (by kernel_rfl), tabEq] at h
  have hT := Lib.tabIs_of_head tabK tabTypeK Tryd.underlying152 Tryd.underlying83 (by kernel_rfl) (by kernel_rfl) h
  intro i hi
  have hc := hT.cell tabK i (by simpa [tabL] using hi)
  rw [hc]
  have hl : i < tabL.length := by simpa [tabL] using hi
  simp [tabH, List.getD, hl]

/-- The door's own heap meets the condition. -/
theorem doorTab_met (os : Os) (args : Array Value) : laidMetH Tryd.prog [("weirkeep/check.halves", Rows.laid_weirkeep_check_halves)] ((World.doorLaid Tryd.prog 400 os).forCall (fun _ _ => 0) ⟨#[], args, []⟩).memory :=
  laidMetH_of_parts3 (fuel := 8) (laidMet_of_run' 8 (by kernel_rfl) (by kernel_rfl)) (by kernel_rfl) (by kernel_rfl)
end Go.Proofs.YtacdbfaoeioflaaDoor
