/-
  slices.BinarySearch at ints, as this program has it, laid in plain words.
-/
import Derived.Shelf.Slices.SearchI
import Derived.Test.YthjinpbclfankaaProg
namespace Go.Proofs.Ythjinpbclfankaa
open Go.Shelf
def laySea_ren : Go.Shelf.Ren := ⟨fun | 25 => 41 | 31 => 47 | 32 => 48 | 37 => 51 | n => n, fun | 22 => 23 | 3 => 3 | 4 => 4 | 40 => 84 | 0 => 0 | n => n, fun | n => n⟩
theorem laySea : Go.Proofs.Lays2.n25 Try.prog laySea_ren := {
  mixed := by kernel_rfl
  f25 := Try.func41.trans (congrArg some (by kernel_rfl))
  f31 := Try.func47.trans (congrArg some (by kernel_rfl))
  f32 := Try.func48.trans (congrArg some (by kernel_rfl))
  f37 := Try.func51.trans (congrArg some (by kernel_rfl))
  t0 := Try.underlying0
  a0 := Try.isAgg0
  z0 := Try.sizeOf0
  v0 := Try.zeroValue0
  t3 := Try.underlying3
  a3 := Try.isAgg3
  z3 := Try.sizeOf3
  v3 := Try.zeroValue3
  t4 := Try.underlying4
  a4 := Try.isAgg4
  z4 := Try.sizeOf4
  v4 := Try.zeroValue4
  t22 := Try.underlying23
  a22 := Try.isAgg23
  z22 := Try.sizeOf23
  v22 := Try.zeroValue23
  t40 := Try.underlying84
  a40 := Try.isAgg84
  z40 := Try.sizeOf84
  v40 := Try.zeroValue84 }
end Go.Proofs.Ythjinpbclfankaa
