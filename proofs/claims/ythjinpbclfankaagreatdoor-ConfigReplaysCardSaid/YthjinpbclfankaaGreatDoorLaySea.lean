/-
  slices.BinarySearch at ints, as this program has it, laid in plain words.
-/
import Derived.Shelf.Slices.SearchI
import Derived.Test.YthjinpbclfankaaGreatDoorProg
namespace Go.Proofs.YthjinpbclfankaaGreatDoor
open Go.Shelf
def laySea_ren : Go.Shelf.Ren := ⟨fun | 25 => 66 | 31 => 73 | 32 => 74 | 37 => 81 | n => n, fun | 22 => 38 | 3 => 3 | 4 => 4 | 40 => 106 | 0 => 0 | n => n, fun | n => n⟩
theorem laySea : Go.Proofs.Lays2.n25 Tryz.prog laySea_ren := {
  mixed := by kernel_rfl
  f25 := Tryz.func66.trans (congrArg some (by kernel_rfl))
  f31 := Tryz.func73.trans (congrArg some (by kernel_rfl))
  f32 := Tryz.func74.trans (congrArg some (by kernel_rfl))
  f37 := Tryz.func81.trans (congrArg some (by kernel_rfl))
  t0 := Tryz.underlying0
  a0 := Tryz.isAgg0
  z0 := Tryz.sizeOf0
  v0 := Tryz.zeroValue0
  t3 := Tryz.underlying3
  a3 := Tryz.isAgg3
  z3 := Tryz.sizeOf3
  v3 := Tryz.zeroValue3
  t4 := Tryz.underlying4
  a4 := Tryz.isAgg4
  z4 := Tryz.sizeOf4
  v4 := Tryz.zeroValue4
  t22 := Tryz.underlying38
  a22 := Tryz.isAgg38
  z22 := Tryz.sizeOf38
  v22 := Tryz.zeroValue38
  t40 := Tryz.underlying106
  a40 := Tryz.isAgg106
  z40 := Tryz.sizeOf106
  v40 := Tryz.zeroValue106 }
end Go.Proofs.YthjinpbclfankaaGreatDoor
