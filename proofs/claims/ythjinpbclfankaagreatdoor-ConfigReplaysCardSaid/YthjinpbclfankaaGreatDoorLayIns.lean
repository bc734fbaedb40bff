/-
  slices.Insert at ints, as this program has it, laid in plain words.
-/
import Derived.Shelf.Spec.SlicesInsertGrow
import Derived.Test.YthjinpbclfankaaGreatDoorProg
namespace Go.Proofs.YthjinpbclfankaaGreatDoor
open Go.Shelf
def layIns_ren : Go.Shelf.Ren := ⟨fun | 21 => 67 | 27 => 75 | 28 => 76 | 35 => 82 | 39 => 86 | n => n, fun | 22 => 38 | 3 => 3 | 4 => 4 | 0 => 0 | n => n, fun | n => n⟩
theorem layIns : Go.Proofs.Lays2.n21 Tryz.prog layIns_ren := {
  mixed := by kernel_rfl
  f21 := Tryz.func67.trans (congrArg some (by kernel_rfl))
  f27 := Tryz.func75.trans (congrArg some (by kernel_rfl))
  f28 := Tryz.func76.trans (congrArg some (by kernel_rfl))
  f35 := Tryz.func82.trans (congrArg some (by kernel_rfl))
  f39 := Tryz.func86.trans (congrArg some (by kernel_rfl))
  t0 := Tryz.underlying0
  a0 := Tryz.isAgg0
  z0 := Tryz.sizeOf0
  v0 := Tryz.zeroValue0
  t3 := Tryz.underlying3
  a3 := Tryz.isAgg3
  z3 := Tryz.sizeOf3
  v3 := Tryz.zeroValue3
  t4 := Tryz.underlying4
  a4 := Tryz.isAgg4
  z4 := Tryz.sizeOf4
  v4 := Tryz.zeroValue4
  t22 := Tryz.underlying38
  a22 := Tryz.isAgg38
  z22 := Tryz.sizeOf38
  v22 := Tryz.zeroValue38
  i3 := by kernel_rfl }
end Go.Proofs.YthjinpbclfankaaGreatDoor
