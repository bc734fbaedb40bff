/-
  slices.Insert at ints, as this program has it, laid in plain words.
-/
import Derived.Shelf.Spec.SlicesInsertGrow
import Derived.Test.YthjinpbclfankaaProg
namespace Go.Proofs.Ythjinpbclfankaa
open Go.Shelf
def layIns_ren : Go.Shelf.Ren := ⟨fun | 21 => 42 | 27 => 49 | 28 => 50 | 35 => 52 | 39 => 53 | n => n, fun | 22 => 23 | 3 => 3 | 4 => 4 | 0 => 0 | n => n, fun | n => n⟩
theorem layIns : Go.Proofs.Lays2.n21 Try.prog layIns_ren := {
  mixed := by kernel_rfl
  f21 := Try.func42.trans (congrArg some (by kernel_rfl))
  f27 := Try.func49.trans (congrArg some (by kernel_rfl))
  f28 := Try.func50.trans (congrArg some (by kernel_rfl))
  f35 := Try.func52.trans (congrArg some (by kernel_rfl))
  f39 := Try.func53.trans (congrArg some (by kernel_rfl))
  t0 := Try.underlying0
  a0 := Try.isAgg0
  z0 := Try.sizeOf0
  v0 := Try.zeroValue0
  t3 := Try.underlying3
  a3 := Try.isAgg3
  z3 := Try.sizeOf3
  v3 := Try.zeroValue3
  t4 := Try.underlying4
  a4 := Try.isAgg4
  z4 := Try.sizeOf4
  v4 := Try.zeroValue4
  t22 := Try.underlying23
  a22 := Try.isAgg23
  z22 := Try.sizeOf23
  v22 := Try.zeroValue23
  i3 := by kernel_rfl }
end Go.Proofs.Ythjinpbclfankaa
