/-
  What the listed variable's condition gives: the table check.halves lies as it is written out; a world that meets the condition.
-/
import Derived.Test.YtacdbfaoeioflaaGreatDoorRows
import Derived.Test.YtacdbfaoeioflaaGreatDoorCards
import Derived.Test.YtacdbfaoeioflaaGreatDoorTie
import Derived.Test.YtacdbfaoeioflaaGreatDoorOpened
import Derived.ChangeSame
import Derived.ChangeVars
import Derived.JoinedOf
import Derived.RowKit
import Derived.RowKitTokens
import Derived.LaidLaws
import Derived.LaidHandle
import Derived.LaidMore
import Derived.MakeChecks
import Derived.Stop.Joined
import Derived.SevenTiedAt
import Derived.OpenShut
import Derived.ProofKit
namespace Go.Proofs.YtacdbfaoeioflaaGreatDoor
open Go.ChangeShapes Go.WideShapes Go.RowKit

theorem ownK : ownKnob Tryz.prog.godebug = none := by kernel_rfl
theorem tabK : Tryz.prog.globalNamed "weirkeep/check.halves" = some 0 := by kernel_rfl
theorem tabTypeK : (Tryz.prog.globals[0]?).map (·.type) = some 204 := by kernel_rfl
theorem tabEq : (Rows.laid_weirkeep_check_halves : DataW Unit) = Lib.tabData .u32 (tabL.map (fun n : Nat => (n : Int))) := rfl

/-- What the condition gives a walk. -/
theorem tab_of_laid {W : World} (h : laidMetH Tryz.prog [("weirkeep/check.halves", Rows.laid_weirkeep_check_halves)] W) : Tab W := by
  rw [MakeChecks.laidMetH_plain _ _ _ (by kernel_rfl), tabEq] at h
  have hT := Lib.tabIs_of_head tabK tabTypeK Tryz.underlying204 Tryz.underlying139 (by kernel_rfl) (by kernel_rfl) h
  intro i hi
  have hc := hT.cell tabK i (by simpa [tabL] using hi)
  rw [hc]
  have hl : i < tabL.length := by simpa [tabL] using hi
  simp [tabH, List.getD, hl]

/-- The door's own heap meets the condition. -/
theorem doorTab_met (os : Os) (args : Array Value) : laidMetH Tryz.prog [("weirkeep/check.halves", Rows.laid_weirkeep_check_halves)] ((World.doorLaid Tryz.prog 400 os).forCall (fun _ _ => 0) ⟨#[], args, []⟩).memory :=
  laidMetH_of_parts3 (fuel := 8) (laidMet_of_run' 8 (by kernel_rfl) (by kernel_rfl)) (by kernel_rfl) (by kernel_rfl)
end Go.Proofs.YtacdbfaoeioflaaGreatDoor
