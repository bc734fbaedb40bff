/-
  toBytes and toNumber (package shelf) at one, two and eight bytes, by contracts.
-/
import Derived.Test.YtacdbfaoeioflaaGreatDoorIsj
import Derived.Test.YtacdbfaoeioflaaGreatDoorRlittle
import Derived.Lib.EndianBits
import Derived.KernelRfl
namespace Go.Proofs.YtacdbfaoeioflaaGreatDoor
open Go.RowKit Go.PlainAid Go.Lib

theorem wraps_i64 (n : Int) (h₀ : 0 ≤ n) (h₁ : n < 2 ^ 63) : IntKind.i64.wrap n = n := IntWalk.i64_in _ (by omega)
theorem i64_or (j : Nat) (y x : Int) (hy₀ : 0 ≤ y) (hy : y < 2 ^ j) (hy₁ : y < 2 ^ 63) (hx₀ : 0 ≤ x) (hx : x % 2 ^ j = 0) (hx₁ : x < 2 ^ 63) : bits .or .i64 y x = y + x :=
  bits_join_low .i64 63 (by decide) wraps_i64 j y x hy₀ hy hy₁ hx₀ hx hx₁
theorem or_neg (y x : Int) (h0 : -9223372036854775808 ≤ x) (h1 : x < 0) : bits .or .i64 y x < 0 := by
  have hx : (BitVec.ofInt IntKind.i64.bits x).toNat = (x + 18446744073709551616).toNat := by
    simp [IntKind.bits, BitVec.toNat_ofInt]; omega
  have hle : (x + 18446744073709551616).toNat ≤ (BitVec.ofInt IntKind.i64.bits y ||| BitVec.ofInt IntKind.i64.bits x).toNat := by
    rw [BitVec.toNat_or, hx]; exact Nat.right_le_or
  have hlt : (BitVec.ofInt IntKind.i64.bits y ||| BitVec.ofInt IntKind.i64.bits x).toNat < 18446744073709551616 := (BitVec.ofInt IntKind.i64.bits y ||| BitVec.ofInt IntKind.i64.bits x).isLt
  unfold bits
  simp only
  generalize (BitVec.ofInt IntKind.i64.bits y ||| BitVec.ofInt IntKind.i64.bits x).toNat = v at hle hlt
  rw [IntKind.wrap_i64]; omega
theorem bt_in (s : ByteArray) (i : Nat) : 0 ≤ bt s i ∧ bt s i ≤ 255 := ⟨bt_nonneg s i, bt_le s i⟩
set_option maxRecDepth 100000 in
set_option maxHeartbeats 2000000 in
theorem toNum1 (s : ByteArray) (w : World) (hs : s.size = 1) :
    Calls Tryz.prog 72 #[.string s] w fun e w' => e = .returned (.int .i64 (lev s 1)) ∧ w = w' := by
  have hl : lev s 1 = bt s 0 := by simp only [lev]; omega
  have hbt := get_bt s
  have hI : (s.size : Int) = 1 := by omega
  have z0 : 0 < s.size := by omega
  have r0 := bt_in s 0
  obtain ⟨b0, e0⟩ : ∃ x, bt s 0 = x := ⟨_, rfl⟩
  rw [e0] at r0
  rw [e0] at hl
  rw [hl]
  clear hl
  have c0 : IntKind.i64.wrap b0 = b0 := IntWalk.i64_in _ (by omega)
  have o0 : bits .or .i64 0 b0 = b0 := by rw [i64_or 0 0 b0 (by omega) (by omega) (by omega) (by omega) (by omega) (by omega)]; omega
  clear r0
  go_enter Tryz.func72, Tryz.ntmps72
  go_wp2
  go_rounds 2
  go_ret
  exact ⟨rfl, rfl⟩
set_option maxRecDepth 100000 in
set_option maxHeartbeats 2000000 in
theorem toNum2 (s : ByteArray) (w : World) (hs : s.size = 2) :
    Calls Tryz.prog 72 #[.string s] w fun e w' => e = .returned (.int .i64 (lev s 2)) ∧ w = w' := by
  have hl : lev s 2 = bt s 0 + bt s 1 * 256 := by simp only [lev]; omega
  have hbt := get_bt s
  have hI : (s.size : Int) = 2 := by omega
  have z0 : 0 < s.size := by omega
  have r0 := bt_in s 0
  obtain ⟨b0, e0⟩ : ∃ x, bt s 0 = x := ⟨_, rfl⟩
  rw [e0] at r0
  have z1 : 1 < s.size := by omega
  have r1 := bt_in s 1
  obtain ⟨b1, e1⟩ : ∃ x, bt s 1 = x := ⟨_, rfl⟩
  rw [e1] at r1
  rw [e0, e1] at hl
  rw [hl]
  clear hl
  have c0 : IntKind.i64.wrap b0 = b0 := IntWalk.i64_in _ (by omega)
  have c1 : IntKind.i64.wrap b1 = b1 := IntWalk.i64_in _ (by omega)
  have d1 : IntKind.i64.wrap (b1 * 256) = b1 * 256 := IntWalk.i64_in _ (by omega)
  have o0 : bits .or .i64 0 b0 = b0 := by rw [i64_or 0 0 b0 (by omega) (by omega) (by omega) (by omega) (by omega) (by omega)]; omega
  have o1 : bits .or .i64 (b0) (b1 * 256) = b0 + b1 * 256 := i64_or 8 (b0) (b1 * 256) (by omega) (by omega) (by omega) (by omega) (by omega) (by omega)
  clear r0 r1
  go_enter Tryz.func72, Tryz.ntmps72
  go_wp2
  go_rounds 3
  go_ret
  exact ⟨rfl, rfl⟩
set_option maxRecDepth 100000 in
set_option maxHeartbeats 2000000 in
theorem toNum8 (s : ByteArray) (w : World) (hs : s.size = 8) (h7 : bt s 7 ≤ 127) :
    Calls Tryz.prog 72 #[.string s] w fun e w' => e = .returned (.int .i64 (lev s 8)) ∧ w = w' := by
  have hl : lev s 8 = bt s 0 + bt s 1 * 256 + bt s 2 * 65536 + bt s 3 * 16777216 + bt s 4 * 4294967296 + bt s 5 * 1099511627776 + bt s 6 * 281474976710656 + bt s 7 * 72057594037927936 := by simp only [lev]; omega
  have hbt := get_bt s
  have hI : (s.size : Int) = 8 := by omega
  have z0 : 0 < s.size := by omega
  have r0 := bt_in s 0
  obtain ⟨b0, e0⟩ : ∃ x, bt s 0 = x := ⟨_, rfl⟩
  rw [e0] at r0
  have z1 : 1 < s.size := by omega
  have r1 := bt_in s 1
  obtain ⟨b1, e1⟩ : ∃ x, bt s 1 = x := ⟨_, rfl⟩
  rw [e1] at r1
  have z2 : 2 < s.size := by omega
  have r2 := bt_in s 2
  obtain ⟨b2, e2⟩ : ∃ x, bt s 2 = x := ⟨_, rfl⟩
  rw [e2] at r2
  have z3 : 3 < s.size := by omega
  have r3 := bt_in s 3
  obtain ⟨b3, e3⟩ : ∃ x, bt s 3 = x := ⟨_, rfl⟩
  rw [e3] at r3
  have z4 : 4 < s.size := by omega
  have r4 := bt_in s 4
  obtain ⟨b4, e4⟩ : ∃ x, bt s 4 = x := ⟨_, rfl⟩
  rw [e4] at r4
  have z5 : 5 < s.size := by omega
  have r5 := bt_in s 5
  obtain ⟨b5, e5⟩ : ∃ x, bt s 5 = x := ⟨_, rfl⟩
  rw [e5] at r5
  have z6 : 6 < s.size := by omega
  have r6 := bt_in s 6
  obtain ⟨b6, e6⟩ : ∃ x, bt s 6 = x := ⟨_, rfl⟩
  rw [e6] at r6
  have z7 : 7 < s.size := by omega
  have r7 := bt_in s 7
  obtain ⟨b7, e7⟩ : ∃ x, bt s 7 = x := ⟨_, rfl⟩
  rw [e7] at r7
  rw [e7] at h7
  rw [e0, e1, e2, e3, e4, e5, e6, e7] at hl
  rw [hl]
  clear hl
  have c0 : IntKind.i64.wrap b0 = b0 := IntWalk.i64_in _ (by omega)
  have c1 : IntKind.i64.wrap b1 = b1 := IntWalk.i64_in _ (by omega)
  have d1 : IntKind.i64.wrap (b1 * 256) = b1 * 256 := IntWalk.i64_in _ (by omega)
  have c2 : IntKind.i64.wrap b2 = b2 := IntWalk.i64_in _ (by omega)
  have d2 : IntKind.i64.wrap (b2 * 65536) = b2 * 65536 := IntWalk.i64_in _ (by omega)
  have c3 : IntKind.i64.wrap b3 = b3 := IntWalk.i64_in _ (by omega)
  have d3 : IntKind.i64.wrap (b3 * 16777216) = b3 * 16777216 := IntWalk.i64_in _ (by omega)
  have c4 : IntKind.i64.wrap b4 = b4 := IntWalk.i64_in _ (by omega)
  have d4 : IntKind.i64.wrap (b4 * 4294967296) = b4 * 4294967296 := IntWalk.i64_in _ (by omega)
  have c5 : IntKind.i64.wrap b5 = b5 := IntWalk.i64_in _ (by omega)
  have d5 : IntKind.i64.wrap (b5 * 1099511627776) = b5 * 1099511627776 := IntWalk.i64_in _ (by omega)
  have c6 : IntKind.i64.wrap b6 = b6 := IntWalk.i64_in _ (by omega)
  have d6 : IntKind.i64.wrap (b6 * 281474976710656) = b6 * 281474976710656 := IntWalk.i64_in _ (by omega)
  have c7 : IntKind.i64.wrap b7 = b7 := IntWalk.i64_in _ (by omega)
  have d7 : IntKind.i64.wrap (b7 * 72057594037927936) = b7 * 72057594037927936 := IntWalk.i64_in _ (by omega)
  have o0 : bits .or .i64 0 b0 = b0 := by rw [i64_or 0 0 b0 (by omega) (by omega) (by omega) (by omega) (by omega) (by omega)]; omega
  have o1 : bits .or .i64 (b0) (b1 * 256) = b0 + b1 * 256 := i64_or 8 (b0) (b1 * 256) (by omega) (by omega) (by omega) (by omega) (by omega) (by omega)
  have o2 : bits .or .i64 (b0 + b1 * 256) (b2 * 65536) = b0 + b1 * 256 + b2 * 65536 := i64_or 16 (b0 + b1 * 256) (b2 * 65536) (by omega) (by omega) (by omega) (by omega) (by omega) (by omega)
  have o3 : bits .or .i64 (b0 + b1 * 256 + b2 * 65536) (b3 * 16777216) = b0 + b1 * 256 + b2 * 65536 + b3 * 16777216 := i64_or 24 (b0 + b1 * 256 + b2 * 65536) (b3 * 16777216) (by omega) (by omega) (by omega) (by omega) (by omega) (by omega)
  have o4 : bits .or .i64 (b0 + b1 * 256 + b2 * 65536 + b3 * 16777216) (b4 * 4294967296) = b0 + b1 * 256 + b2 * 65536 + b3 * 16777216 + b4 * 4294967296 := i64_or 32 (b0 + b1 * 256 + b2 * 65536 + b3 * 16777216) (b4 * 4294967296) (by omega) (by omega) (by omega) (by omega) (by omega) (by omega)
  have o5 : bits .or .i64 (b0 + b1 * 256 + b2 * 65536 + b3 * 16777216 + b4 * 4294967296) (b5 * 1099511627776) = b0 + b1 * 256 + b2 * 65536 + b3 * 16777216 + b4 * 4294967296 + b5 * 1099511627776 := i64_or 40 (b0 + b1 * 256 + b2 * 65536 + b3 * 16777216 + b4 * 4294967296) (b5 * 1099511627776) (by omega) (by omega) (by omega) (by omega) (by omega) (by omega)
  have o6 : bits .or .i64 (b0 + b1 * 256 + b2 * 65536 + b3 * 16777216 + b4 * 4294967296 + b5 * 1099511627776) (b6 * 281474976710656) = b0 + b1 * 256 + b2 * 65536 + b3 * 16777216 + b4 * 4294967296 + b5 * 1099511627776 + b6 * 281474976710656 := i64_or 48 (b0 + b1 * 256 + b2 * 65536 + b3 * 16777216 + b4 * 4294967296 + b5 * 1099511627776) (b6 * 281474976710656) (by omega) (by omega) (by omega) (by omega) (by omega) (by omega)
  have o7 : bits .or .i64 (b0 + b1 * 256 + b2 * 65536 + b3 * 16777216 + b4 * 4294967296 + b5 * 1099511627776 + b6 * 281474976710656) (b7 * 72057594037927936) = b0 + b1 * 256 + b2 * 65536 + b3 * 16777216 + b4 * 4294967296 + b5 * 1099511627776 + b6 * 281474976710656 + b7 * 72057594037927936 := i64_or 56 (b0 + b1 * 256 + b2 * 65536 + b3 * 16777216 + b4 * 4294967296 + b5 * 1099511627776 + b6 * 281474976710656) (b7 * 72057594037927936) (by omega) (by omega) (by omega) (by omega) (by omega) (by omega)
  clear r0 r1 r2 r3 r4 r5 r6 r7 h7
  go_enter Tryz.func72, Tryz.ntmps72
  go_wp2
  go_rounds 9
  go_ret
  exact ⟨rfl, rfl⟩
set_option maxRecDepth 100000 in
set_option maxHeartbeats 2000000 in
theorem toNumBad (s : ByteArray) (hs : s.size = 8) (h7 : 127 < bt s 7) :
    ∃ V : Int, V < 0 ∧ ∀ w : World, Calls Tryz.prog 72 #[.string s] w fun e w' => e = .returned (.int .i64 V) ∧ w = w' := by
  have hbt := get_bt s
  have hI : (s.size : Int) = 8 := by omega
  have z0 : 0 < s.size := by omega
  have r0 := bt_in s 0
  obtain ⟨b0, e0⟩ : ∃ x, bt s 0 = x := ⟨_, rfl⟩
  rw [e0] at r0
  have z1 : 1 < s.size := by omega
  have r1 := bt_in s 1
  obtain ⟨b1, e1⟩ : ∃ x, bt s 1 = x := ⟨_, rfl⟩
  rw [e1] at r1
  have z2 : 2 < s.size := by omega
  have r2 := bt_in s 2
  obtain ⟨b2, e2⟩ : ∃ x, bt s 2 = x := ⟨_, rfl⟩
  rw [e2] at r2
  have z3 : 3 < s.size := by omega
  have r3 := bt_in s 3
  obtain ⟨b3, e3⟩ : ∃ x, bt s 3 = x := ⟨_, rfl⟩
  rw [e3] at r3
  have z4 : 4 < s.size := by omega
  have r4 := bt_in s 4
  obtain ⟨b4, e4⟩ : ∃ x, bt s 4 = x := ⟨_, rfl⟩
  rw [e4] at r4
  have z5 : 5 < s.size := by omega
  have r5 := bt_in s 5
  obtain ⟨b5, e5⟩ : ∃ x, bt s 5 = x := ⟨_, rfl⟩
  rw [e5] at r5
  have z6 : 6 < s.size := by omega
  have r6 := bt_in s 6
  obtain ⟨b6, e6⟩ : ∃ x, bt s 6 = x := ⟨_, rfl⟩
  rw [e6] at r6
  have z7 : 7 < s.size := by omega
  have r7 := bt_in s 7
  obtain ⟨b7, e7⟩ : ∃ x, bt s 7 = x := ⟨_, rfl⟩
  rw [e7] at r7
  rw [e7] at h7
  have c0 : IntKind.i64.wrap b0 = b0 := IntWalk.i64_in _ (by omega)
  have c1 : IntKind.i64.wrap b1 = b1 := IntWalk.i64_in _ (by omega)
  have d1 : IntKind.i64.wrap (b1 * 256) = b1 * 256 := IntWalk.i64_in _ (by omega)
  have c2 : IntKind.i64.wrap b2 = b2 := IntWalk.i64_in _ (by omega)
  have d2 : IntKind.i64.wrap (b2 * 65536) = b2 * 65536 := IntWalk.i64_in _ (by omega)
  have c3 : IntKind.i64.wrap b3 = b3 := IntWalk.i64_in _ (by omega)
  have d3 : IntKind.i64.wrap (b3 * 16777216) = b3 * 16777216 := IntWalk.i64_in _ (by omega)
  have c4 : IntKind.i64.wrap b4 = b4 := IntWalk.i64_in _ (by omega)
  have d4 : IntKind.i64.wrap (b4 * 4294967296) = b4 * 4294967296 := IntWalk.i64_in _ (by omega)
  have c5 : IntKind.i64.wrap b5 = b5 := IntWalk.i64_in _ (by omega)
  have d5 : IntKind.i64.wrap (b5 * 1099511627776) = b5 * 1099511627776 := IntWalk.i64_in _ (by omega)
  have c6 : IntKind.i64.wrap b6 = b6 := IntWalk.i64_in _ (by omega)
  have d6 : IntKind.i64.wrap (b6 * 281474976710656) = b6 * 281474976710656 := IntWalk.i64_in _ (by omega)
  have c7 : IntKind.i64.wrap b7 = b7 := IntWalk.i64_in _ (by omega)
  have o0 : bits .or .i64 0 b0 = b0 := by rw [i64_or 0 0 b0 (by omega) (by omega) (by omega) (by omega) (by omega) (by omega)]; omega
  have o1 : bits .or .i64 (b0) (b1 * 256) = b0 + b1 * 256 := i64_or 8 (b0) (b1 * 256) (by omega) (by omega) (by omega) (by omega) (by omega) (by omega)
  have o2 : bits .or .i64 (b0 + b1 * 256) (b2 * 65536) = b0 + b1 * 256 + b2 * 65536 := i64_or 16 (b0 + b1 * 256) (b2 * 65536) (by omega) (by omega) (by omega) (by omega) (by omega) (by omega)
  have o3 : bits .or .i64 (b0 + b1 * 256 + b2 * 65536) (b3 * 16777216) = b0 + b1 * 256 + b2 * 65536 + b3 * 16777216 := i64_or 24 (b0 + b1 * 256 + b2 * 65536) (b3 * 16777216) (by omega) (by omega) (by omega) (by omega) (by omega) (by omega)
  have o4 : bits .or .i64 (b0 + b1 * 256 + b2 * 65536 + b3 * 16777216) (b4 * 4294967296) = b0 + b1 * 256 + b2 * 65536 + b3 * 16777216 + b4 * 4294967296 := i64_or 32 (b0 + b1 * 256 + b2 * 65536 + b3 * 16777216) (b4 * 4294967296) (by omega) (by omega) (by omega) (by omega) (by omega) (by omega)
  have o5 : bits .or .i64 (b0 + b1 * 256 + b2 * 65536 + b3 * 16777216 + b4 * 4294967296) (b5 * 1099511627776) = b0 + b1 * 256 + b2 * 65536 + b3 * 16777216 + b4 * 4294967296 + b5 * 1099511627776 := i64_or 40 (b0 + b1 * 256 + b2 * 65536 + b3 * 16777216 + b4 * 4294967296) (b5 * 1099511627776) (by omega) (by omega) (by omega) (by omega) (by omega) (by omega)
  have o6 : bits .or .i64 (b0 + b1 * 256 + b2 * 65536 + b3 * 16777216 + b4 * 4294967296 + b5 * 1099511627776) (b6 * 281474976710656) = b0 + b1 * 256 + b2 * 65536 + b3 * 16777216 + b4 * 4294967296 + b5 * 1099511627776 + b6 * 281474976710656 := i64_or 48 (b0 + b1 * 256 + b2 * 65536 + b3 * 16777216 + b4 * 4294967296 + b5 * 1099511627776) (b6 * 281474976710656) (by omega) (by omega) (by omega) (by omega) (by omega) (by omega)
  have hw : IntKind.i64.wrap (b7 * 72057594037927936) = b7 * 72057594037927936 - 18446744073709551616 := by rw [IntKind.wrap_i64]; omega
  have hn := or_neg (b0 + b1 * 256 + b2 * 65536 + b3 * 16777216 + b4 * 4294967296 + b5 * 1099511627776 + b6 * 281474976710656) (b7 * 72057594037927936 - 18446744073709551616) (by omega) (by omega)
  obtain ⟨V, hV⟩ : ∃ V, bits .or .i64 (b0 + b1 * 256 + b2 * 65536 + b3 * 16777216 + b4 * 4294967296 + b5 * 1099511627776 + b6 * 281474976710656) (b7 * 72057594037927936 - 18446744073709551616) = V := ⟨_, rfl⟩
  rw [hV] at hn
  have HN := Lib.hid hn
  clear r0 r1 r2 r3 r4 r5 r6 r7 h7 hn
  refine ⟨V, HN.out, fun w => ?_⟩
  go_enter Tryz.func72, Tryz.ntmps72
  go_wp2
  go_rounds 9
  go_ret
  exact ⟨rfl, rfl⟩
theorem convB1 (p0 : Int) (t : TypeId) (w : World) :
    (convert 98 9 (.slice (some ⟨w.heap.size, 0, none⟩) 1 1)).run Tryz.prog (w.alloc (.cells #[.int .u8 p0] t)) = .ok (.string (strOfNums [p0])) (w.alloc (.cells #[.int .u8 p0] t)) :=
  run_convert_bytes_arg _ 98 5 Tryz.underlying98 Tryz.underlying5 w.heap.size 0 1 1 [p0] rfl (fun i hi => by
    rcases i with _ | i
    · simp
    · omega) 9 Tryz.underlying9
set_option maxRecDepth 100000 in
set_option maxHeartbeats 2000000 in
theorem toB1 (n : Int) (w : World) :
    Calls Tryz.prog 90 #[.int .i64 n, .int .i64 1] w fun e w' => e = .returned (.string (strOfNums (leb n 1))) ∧ Below w.heap.size w w' := by
  have hmk : (Instr.makeSlice 98 (.int .i64 1) (.int .i64 1)).run Tryz.prog w = .ok (.slice (some ⟨w.heap.size, 0, none⟩) 1 1) (w.alloc (.cells #[.int .u8 0] 5)) := by
    have h := run_make_row' (P := Tryz.prog) 98 5 _ 1 Tryz.underlying98 info_u8 rfl .i64 .i64 1 (by omega) (by omega) w
    rw [show madeCells #[Value.int IntKind.u8 0] 1 = #[.int .u8 0] from by kernel_rfl] at h
    exact h
  have hcv := convB1 (n % 256) 5 w
  have hl : leb n 1 = [n % 256] := rfl
  rw [hl]
  clear hl
  go_enter Tryz.func90, Tryz.ntmps90
  go_wp2
  go_rounds 2
  go_ret
  exact ⟨rfl, (Below.refl _ _).alloc (Nat.le_refl _) _⟩
theorem convB2 (p0 p1 : Int) (t : TypeId) (w : World) :
    (convert 98 9 (.slice (some ⟨w.heap.size, 0, none⟩) 2 2)).run Tryz.prog (w.alloc (.cells #[.int .u8 p0, .int .u8 p1] t)) = .ok (.string (strOfNums [p0, p1])) (w.alloc (.cells #[.int .u8 p0, .int .u8 p1] t)) :=
  run_convert_bytes_arg _ 98 5 Tryz.underlying98 Tryz.underlying5 w.heap.size 0 2 2 [p0, p1] rfl (fun i hi => by
    rcases i with _ | _ | i
    · simp
    · simp
    · omega) 9 Tryz.underlying9
set_option maxRecDepth 100000 in
set_option maxHeartbeats 2000000 in
theorem toB2 (n : Int) (w : World) :
    Calls Tryz.prog 90 #[.int .i64 n, .int .i64 2] w fun e w' => e = .returned (.string (strOfNums (leb n 2))) ∧ Below w.heap.size w w' := by
  have hmk : (Instr.makeSlice 98 (.int .i64 2) (.int .i64 2)).run Tryz.prog w = .ok (.slice (some ⟨w.heap.size, 0, none⟩) 2 2) (w.alloc (.cells #[.int .u8 0, .int .u8 0] 5)) := by
    have h := run_make_row' (P := Tryz.prog) 98 5 _ 1 Tryz.underlying98 info_u8 rfl .i64 .i64 2 (by omega) (by omega) w
    rw [show madeCells #[Value.int IntKind.u8 0] 2 = #[.int .u8 0, .int .u8 0] from by kernel_rfl] at h
    exact h
  have hcv := convB2 (n % 256) (n / 256 % 256) 5 w
  have hl : leb n 2 = [n % 256, n / 256 % 256] := rfl
  rw [hl]
  clear hl
  go_enter Tryz.func90, Tryz.ntmps90
  go_wp2
  go_rounds 3
  go_ret
  exact ⟨rfl, (Below.refl _ _).alloc (Nat.le_refl _) _⟩
theorem convB8 (p0 p1 p2 p3 p4 p5 p6 p7 : Int) (t : TypeId) (w : World) :
    (convert 98 9 (.slice (some ⟨w.heap.size, 0, none⟩) 8 8)).run Tryz.prog (w.alloc (.cells #[.int .u8 p0, .int .u8 p1, .int .u8 p2, .int .u8 p3, .int .u8 p4, .int .u8 p5, .int .u8 p6, .int .u8 p7] t)) = .ok (.string (strOfNums [p0, p1, p2, p3, p4, p5, p6, p7])) (w.alloc (.cells #[.int .u8 p0, .int .u8 p1, .int .u8 p2, .int .u8 p3, .int .u8 p4, .int .u8 p5, .int .u8 p6, .int .u8 p7] t)) :=
  run_convert_bytes_arg _ 98 5 Tryz.underlying98 Tryz.underlying5 w.heap.size 0 8 8 [p0, p1, p2, p3, p4, p5, p6, p7] rfl (fun i hi => by
    rcases i with _ | _ | _ | _ | _ | _ | _ | _ | i
    · simp
    · simp
    · simp
    · simp
    · simp
    · simp
    · simp
    · simp
    · omega) 9 Tryz.underlying9
set_option maxRecDepth 100000 in
set_option maxHeartbeats 2000000 in
theorem toB8 (n : Int) (w : World) :
    Calls Tryz.prog 90 #[.int .i64 n, .int .i64 8] w fun e w' => e = .returned (.string (strOfNums (leb n 8))) ∧ Below w.heap.size w w' := by
  have hmk : (Instr.makeSlice 98 (.int .i64 8) (.int .i64 8)).run Tryz.prog w = .ok (.slice (some ⟨w.heap.size, 0, none⟩) 8 8) (w.alloc (.cells #[.int .u8 0, .int .u8 0, .int .u8 0, .int .u8 0, .int .u8 0, .int .u8 0, .int .u8 0, .int .u8 0] 5)) := by
    have h := run_make_row' (P := Tryz.prog) 98 5 _ 1 Tryz.underlying98 info_u8 rfl .i64 .i64 8 (by omega) (by omega) w
    rw [show madeCells #[Value.int IntKind.u8 0] 8 = #[.int .u8 0, .int .u8 0, .int .u8 0, .int .u8 0, .int .u8 0, .int .u8 0, .int .u8 0, .int .u8 0] from by kernel_rfl] at h
    exact h
  have hcv := convB8 (n % 256) (n / 256 % 256) (n / 65536 % 256) (n / 16777216 % 256) (n / 4294967296 % 256) (n / 1099511627776 % 256) (n / 281474976710656 % 256) (n / 72057594037927936 % 256) 5 w
  have hl : leb n 8 = [n % 256, n / 256 % 256, n / 65536 % 256, n / 16777216 % 256, n / 4294967296 % 256, n / 1099511627776 % 256, n / 281474976710656 % 256, n / 72057594037927936 % 256] := rfl
  rw [hl]
  clear hl
  go_enter Tryz.func90, Tryz.ntmps90
  go_wp2
  go_rounds 9
  go_ret
  exact ⟨rfl, (Below.refl _ _).alloc (Nat.le_refl _) _⟩
end Go.Proofs.YtacdbfaoeioflaaGreatDoor
