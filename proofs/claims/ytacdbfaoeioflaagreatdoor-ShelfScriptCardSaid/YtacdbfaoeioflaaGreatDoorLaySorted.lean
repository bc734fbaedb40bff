/-
  slices.Sorted at ints, laid at this program.
-/
import Derived.Shelf.SlIterI.Nil
import Derived.Test.YtacdbfaoeioflaaGreatDoorProg
namespace Go.Proofs.YtacdbfaoeioflaaGreatDoor
open Go.Shelf
def sortedA_ren : Go.Shelf.Ren := ⟨fun | 6 => 62 | 8 => 81 | 9 => 82 | 11 => 97 | 13 => 99 | 12 => 98 | 23 => 116 | 24 => 117 | 14 => 107 | 15 => 108 | 16 => 109 | 17 => 110 | 18 => 111 | 19 => 112 | 20 => 113 | 21 => 114 | 22 => 115 | 25 => 123 | 26 => 124 | 27 => 125 | 28 => 126 | 29 => 127 | 30 => 128 | 31 => 131 | n => n, fun | 26 => 3 | 28 => 107 | 24 => 54 | 0 => 0 | 3 => 3 | 37 => 103 | 48 => 139 | 50 => 38 | 4 => 4 | 40 => 180 | 39 => 179 | 45 => 185 | 5 => 5 | 9 => 9 | 51 => 197 | 55 => 201 | 57 => 208 | 58 => 209 | 33 => 137 | n => n, fun | n => n⟩
theorem sortedA : Go.Proofs.SlLaysZI.n6 Tryz.prog sortedA_ren := {
  mixed := by kernel_rfl
  f6 := ⟨Tryz.f62.name, by decide, Tryz.func62.trans (congrArg some (by kernel_rfl))⟩
  f8 := ⟨Tryz.f81.name, by decide, Tryz.func81.trans (congrArg some (by kernel_rfl))⟩
  f11 := ⟨Tryz.f97.name, by decide, Tryz.func97.trans (congrArg some (by kernel_rfl))⟩
  t0 := Tryz.underlying0
  a0 := Tryz.isAgg0
  z0 := Tryz.sizeOf0
  v0 := Tryz.zeroValue0
  t24 := Tryz.underlying54
  a24 := Tryz.isAgg54
  z24 := Tryz.sizeOf54
  v24 := Tryz.zeroValue54
  t26 := Tryz.underlying3
  a26 := Tryz.isAgg3
  z26 := Tryz.sizeOf3
  v26 := Tryz.zeroValue3
  t28 := Tryz.underlying107
  a28 := Tryz.isAgg107
  z28 := Tryz.sizeOf107
  v28 := Tryz.zeroValue107
  i26 := by kernel_rfl }
end Go.Proofs.YtacdbfaoeioflaaGreatDoor
