/-
  The reader's Text, by contracts.
-/
import Derived.Test.YthjinpbclfankaaGreatDoorRnum
namespace Go.Proofs.YthjinpbclfankaaGreatDoor
open Go.RowKit Go.Extern.Stop Go.Stop Go.Extern Go.PlainAid Go.Lib

theorem width2 : Width 2 := .inr (.inl rfl)
theorem lev2_bounds (s : ByteArray) : 0 ≤ lev s 2 ∧ lev s 2 ≤ 65535 := by
  have := bt_nonneg s 0; have := bt_nonneg s 1; have := bt_le s 0; have := bt_le s 1
  simp only [lev]; omega

end Go.Proofs.YthjinpbclfankaaGreatDoor
