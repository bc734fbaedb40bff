/-
  unite, by contracts: the number that bytes make, the lowest first.
-/
import Derived.Test.YthjinpbclfankaaGreatDoorText
import Derived.Deep.QuietTactic
import Derived.BigQuiet
import Derived.Lib.EndianBits
namespace Go.Proofs.YthjinpbclfankaaGreatDoor
open Go.RowKit Go.Extern.Stop Go.Stop Go.Extern Go.PlainAid Go.Lib

/-- The number that the first k bytes of s make, the lowest first. -/
def lev (s : ByteArray) : Nat → Int
  | 0 => 0
  | k + 1 => lev s k + bt s k * 256 ^ k

theorem or_hi (i : Nat) (x y : Int) (hx0 : 0 ≤ x) (hx : x % 2 ^ i = 0) (hx1 : x < 2 ^ 64) (hy0 : 0 ≤ y) (hy : y < 2 ^ i) (hy1 : y < 2 ^ 64) : bits .or .u64 x y = x + y :=
  bits_join .u64 64 (by decide) wraps_u64 i x y hx0 hx hx1 hy0 hy hy1

theorem or_zero (y : Int) (h0 : 0 ≤ y) (h1 : y < 18446744073709551616) : bits .or .u64 0 y = y := by
  rw [or_hi 64 0 y (by decide) (by decide) (by decide) h0 (by simpa using h1) (by simpa using h1)]; omega
theorem wrap_bt (s : ByteArray) (k : Nat) : IntKind.u64.wrap (bt s k) = bt s k := u64_wrap_id _ (bt_nonneg s k) (by have := bt_le s k; omega)
theorem wrap_sh (s : ByteArray) (k : Nat) (m : Int) (h0 : 0 ≤ m) (h : m ≤ 72057594037927936) : IntKind.u64.wrap (bt s k * m) = bt s k * m := by
  have h1 := bt_le s k
  have h2 := bt_nonneg s k
  have h3 : bt s k * m ≤ 255 * m := Int.mul_le_mul_of_nonneg_right h1 h0
  have h4 : 0 ≤ bt s k * m := Int.mul_nonneg h2 h0
  exact u64_wrap_id _ h4 (by omega)
theorem ret_int {k : IntKind} {a b : Int} (h : a = b) : Ending.returned (.int k a) = .returned (.int k b) := by rw [h]
theorem val1 (s : ByteArray) : bits BinOp.or IntKind.u64 (0) (IntKind.u64.wrap (bt s 0)) = lev s 1 := by
  have g0 := bt_nonneg s 0
  have l0 := bt_le s 0
  simp only [wrap_bt]
  rw [or_zero _ (by omega) (by omega)]
  simp only [lev]
  omega
theorem val2 (s : ByteArray) : bits BinOp.or IntKind.u64 (bits BinOp.or IntKind.u64 (0) (IntKind.u64.wrap (IntKind.u64.wrap (bt s 1) * 256))) (IntKind.u64.wrap (bt s 0)) = lev s 2 := by
  have g0 := bt_nonneg s 0
  have l0 := bt_le s 0
  have g1 := bt_nonneg s 1
  have l1 := bt_le s 1
  simp only [wrap_bt, wrap_sh s 1 256 (by decide) (by decide)]
  rw [or_zero _ (by omega) (by omega), or_hi 8 _ _ (by omega) (by omega) (by omega) (by omega) (by omega) (by omega)]
  simp only [lev]
  omega
theorem val4 (s : ByteArray) : bits BinOp.or IntKind.u64 (bits BinOp.or IntKind.u64 (bits BinOp.or IntKind.u64 (0) (bits BinOp.or IntKind.u64 (IntKind.u64.wrap (IntKind.u64.wrap (bt s 3) * 16777216)) (IntKind.u64.wrap (IntKind.u64.wrap (bt s 2) * 65536)))) (IntKind.u64.wrap (IntKind.u64.wrap (bt s 1) * 256))) (IntKind.u64.wrap (bt s 0)) = lev s 4 := by
  have g0 := bt_nonneg s 0
  have l0 := bt_le s 0
  have g1 := bt_nonneg s 1
  have l1 := bt_le s 1
  have g2 := bt_nonneg s 2
  have l2 := bt_le s 2
  have g3 := bt_nonneg s 3
  have l3 := bt_le s 3
  simp only [wrap_bt, wrap_sh s 1 256 (by decide) (by decide), wrap_sh s 2 65536 (by decide) (by decide), wrap_sh s 3 16777216 (by decide) (by decide)]
  rw [or_hi 24 (bt s 3 * 16777216) _ (by omega) (by omega) (by omega) (by omega) (by omega) (by omega), or_zero _ (by omega) (by omega), or_hi 16 (bt s 3 * 16777216 + bt s 2 * 65536) _ (by omega) (by omega) (by omega) (by omega) (by omega) (by omega), or_hi 8 _ _ (by omega) (by omega) (by omega) (by omega) (by omega) (by omega)]
  simp only [lev]
  omega
theorem val8 (s : ByteArray) : bits BinOp.or IntKind.u64 (bits BinOp.or IntKind.u64 (bits BinOp.or IntKind.u64 (bits BinOp.or IntKind.u64 (bits BinOp.or IntKind.u64 (bits BinOp.or IntKind.u64 (IntKind.u64.wrap (IntKind.u64.wrap (bt s 7) * 72057594037927936)) (IntKind.u64.wrap (IntKind.u64.wrap (bt s 6) * 281474976710656))) (IntKind.u64.wrap (IntKind.u64.wrap (bt s 5) * 1099511627776))) (IntKind.u64.wrap (IntKind.u64.wrap (bt s 4) * 4294967296))) (bits BinOp.or IntKind.u64 (IntKind.u64.wrap (IntKind.u64.wrap (bt s 3) * 16777216)) (IntKind.u64.wrap (IntKind.u64.wrap (bt s 2) * 65536)))) (IntKind.u64.wrap (IntKind.u64.wrap (bt s 1) * 256))) (IntKind.u64.wrap (bt s 0)) = lev s 8 := by
  have g0 := bt_nonneg s 0
  have l0 := bt_le s 0
  have g1 := bt_nonneg s 1
  have l1 := bt_le s 1
  have g2 := bt_nonneg s 2
  have l2 := bt_le s 2
  have g3 := bt_nonneg s 3
  have l3 := bt_le s 3
  have g4 := bt_nonneg s 4
  have l4 := bt_le s 4
  have g5 := bt_nonneg s 5
  have l5 := bt_le s 5
  have g6 := bt_nonneg s 6
  have l6 := bt_le s 6
  have g7 := bt_nonneg s 7
  have l7 := bt_le s 7
  simp only [wrap_bt, wrap_sh s 1 256 (by decide) (by decide), wrap_sh s 2 65536 (by decide) (by decide), wrap_sh s 3 16777216 (by decide) (by decide), wrap_sh s 4 4294967296 (by decide) (by decide), wrap_sh s 5 1099511627776 (by decide) (by decide), wrap_sh s 6 281474976710656 (by decide) (by decide), wrap_sh s 7 72057594037927936 (by decide) (by decide)]
  rw [or_hi 56 (bt s 7 * 72057594037927936) _ (by omega) (by omega) (by omega) (by omega) (by omega) (by omega), or_hi 48 (bt s 7 * 72057594037927936 + bt s 6 * 281474976710656) _ (by omega) (by omega) (by omega) (by omega) (by omega) (by omega), or_hi 40 (bt s 7 * 72057594037927936 + bt s 6 * 281474976710656 + bt s 5 * 1099511627776) _ (by omega) (by omega) (by omega) (by omega) (by omega) (by omega), or_hi 24 (bt s 3 * 16777216) _ (by omega) (by omega) (by omega) (by omega) (by omega) (by omega), or_hi 32 _ (bt s 3 * 16777216 + bt s 2 * 65536) (by omega) (by omega) (by omega) (by omega) (by omega) (by omega), or_hi 16 _ (bt s 1 * 256) (by omega) (by omega) (by omega) (by omega) (by omega) (by omega), or_hi 8 _ (bt s 0) (by omega) (by omega) (by omega) (by omega) (by omega) (by omega)]
  simp only [lev]
  omega
set_option maxRecDepth 100000 in
theorem unite1 (s : ByteArray) (w : World) (hs : 1 ≤ s.size) :
    Calls Tryz.prog 36 #[.string s, .int .i64 1] w fun e w' => e = .returned (.int .u64 (lev s 1)) ∧ ∃ n, w' = w.drewN n := by
  have hb := get_bt s
  have h0 : (0 : Int) < (s.size : Int) := by omega
  go_enter Tryz.func36, Tryz.ntmps36
  go_wp2
  go_ret
  exact ⟨ret_int (val1 s), 0, rfl⟩
set_option maxRecDepth 100000 in
theorem unite2 (s : ByteArray) (w : World) (hs : 2 ≤ s.size) :
    Calls Tryz.prog 36 #[.string s, .int .i64 2] w fun e w' => e = .returned (.int .u64 (lev s 2)) ∧ ∃ n, w' = w.drewN n := by
  have hb := get_bt s
  have h0 : (0 : Int) < (s.size : Int) := by omega
  have h1 : (1 : Int) < (s.size : Int) := by omega
  go_enter Tryz.func36, Tryz.ntmps36
  go_wp2
  go_ret
  exact ⟨ret_int (val2 s), 0, rfl⟩
set_option maxRecDepth 100000 in
theorem unite4 (s : ByteArray) (w : World) (hs : 4 ≤ s.size) :
    Calls Tryz.prog 36 #[.string s, .int .i64 4] w fun e w' => e = .returned (.int .u64 (lev s 4)) ∧ ∃ n, w' = w.drewN n := by
  have hb := get_bt s
  have h0 : (0 : Int) < (s.size : Int) := by omega
  have h1 : (1 : Int) < (s.size : Int) := by omega
  have h2 : (2 : Int) < (s.size : Int) := by omega
  have h3 : (3 : Int) < (s.size : Int) := by omega
  go_enter Tryz.func36, Tryz.ntmps36
  go_wp2
  go_quiet (fail)
  go_wp2
  go_ret
  exact ⟨ret_int (val4 s), _, rfl⟩
set_option maxRecDepth 100000 in
theorem unite8 (s : ByteArray) (w : World) (hs : 8 ≤ s.size) :
    Calls Tryz.prog 36 #[.string s, .int .i64 8] w fun e w' => e = .returned (.int .u64 (lev s 8)) ∧ ∃ n, w' = w.drewN n := by
  have hb := get_bt s
  have h0 : (0 : Int) < (s.size : Int) := by omega
  have h1 : (1 : Int) < (s.size : Int) := by omega
  have h2 : (2 : Int) < (s.size : Int) := by omega
  have h3 : (3 : Int) < (s.size : Int) := by omega
  have h4 : (4 : Int) < (s.size : Int) := by omega
  have h5 : (5 : Int) < (s.size : Int) := by omega
  have h6 : (6 : Int) < (s.size : Int) := by omega
  have h7 : (7 : Int) < (s.size : Int) := by omega
  go_enter Tryz.func36, Tryz.ntmps36
  go_wp2
  go_quiet (fail)
  go_wp2
  go_quiet (fail)
  go_wp2
  go_ret
  exact ⟨ret_int (val8 s), _, rfl⟩
end Go.Proofs.YthjinpbclfankaaGreatDoor
