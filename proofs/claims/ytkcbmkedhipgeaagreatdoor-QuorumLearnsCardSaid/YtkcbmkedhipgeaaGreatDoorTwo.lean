/-
  unite, by contracts: the number that bytes make, the lowest first.

  The reader of package field, by contracts: left, fault, NewReader, At, End.

  The reader's Num, by contracts.

  The reader's Text, by contracts.

  Plain lemmas on bytes as numbers: what leb writes lev reads; parts of a text made of numbers.

  Two writers side by side; a reader beside writers; reading at a place where a number, or a text, was written.
-/
import Derived.Test.YtkcbmkedhipgeaaGreatDoorText
import Derived.Deep.QuietTactic
import Derived.BigQuiet
import Derived.Lib.EndianBits
import Derived.WalkSmall
namespace Go.Proofs.YtkcbmkedhipgeaaGreatDoor
open Go.RowKit Go.Extern.Stop Go.Stop Go.Extern Go.PlainAid Go.Lib

/-- The number that the first k bytes of s make, the lowest first. -/
def lev (s : ByteArray) : Nat → Int
  | 0 => 0
  | k + 1 => lev s k + bt s k * 256 ^ k

theorem or_hi (i : Nat) (x y : Int) (hx0 : 0 ≤ x) (hx : x % 2 ^ i = 0) (hx1 : x < 2 ^ 64) (hy0 : 0 ≤ y) (hy : y < 2 ^ i) (hy1 : y < 2 ^ 64) : bits .or .u64 x y = x + y :=
  bits_join .u64 64 (by decide) wraps_u64 i x y hx0 hx hx1 hy0 hy hy1

theorem or_zero (y : Int) (h0 : 0 ≤ y) (h1 : y < 18446744073709551616) : bits .or .u64 0 y = y := by
  rw [or_hi 64 0 y (by decide) (by decide) (by decide) h0 (by simpa using h1) (by simpa using h1)]; omega
theorem wrap_bt (s : ByteArray) (k : Nat) : IntKind.u64.wrap (bt s k) = bt s k := u64_wrap_id _ (bt_nonneg s k) (by have := bt_le s k; omega)
theorem wrap_sh (s : ByteArray) (k : Nat) (m : Int) (h0 : 0 ≤ m) (h : m ≤ 72057594037927936) : IntKind.u64.wrap (bt s k * m) = bt s k * m := by
  have h1 := bt_le s k
  have h2 := bt_nonneg s k
  have h3 : bt s k * m ≤ 255 * m := Int.mul_le_mul_of_nonneg_right h1 h0
  have h4 : 0 ≤ bt s k * m := Int.mul_nonneg h2 h0
  exact u64_wrap_id _ h4 (by omega)
theorem ret_int {k : IntKind} {a b : Int} (h : a = b) : Ending.returned (.int k a) = .returned (.int k b) := by rw [h]
theorem val1 (s : ByteArray) : bits BinOp.or IntKind.u64 (0) (IntKind.u64.wrap (bt s 0)) = lev s 1 := by
  have g0 := bt_nonneg s 0
  have l0 := bt_le s 0
  simp only [wrap_bt]
  rw [or_zero _ (by omega) (by omega)]
  simp only [lev]
  omega
theorem val2 (s : ByteArray) : bits BinOp.or IntKind.u64 (bits BinOp.or IntKind.u64 (0) (IntKind.u64.wrap (IntKind.u64.wrap (bt s 1) * 256))) (IntKind.u64.wrap (bt s 0)) = lev s 2 := by
  have g0 := bt_nonneg s 0
  have l0 := bt_le s 0
  have g1 := bt_nonneg s 1
  have l1 := bt_le s 1
  simp only [wrap_bt, wrap_sh s 1 256 (by decide) (by decide)]
  rw [or_zero _ (by omega) (by omega), or_hi 8 _ _ (by omega) (by omega) (by omega) (by omega) (by omega) (by omega)]
  simp only [lev]
  omega
theorem val4 (s : ByteArray) : bits BinOp.or IntKind.u64 (bits BinOp.or IntKind.u64 (bits BinOp.or IntKind.u64 (0) (bits BinOp.or IntKind.u64 (IntKind.u64.wrap (IntKind.u64.wrap (bt s 3) * 16777216)) (IntKind.u64.wrap (IntKind.u64.wrap (bt s 2) * 65536)))) (IntKind.u64.wrap (IntKind.u64.wrap (bt s 1) * 256))) (IntKind.u64.wrap (bt s 0)) = lev s 4 := by
  have g0 := bt_nonneg s 0
  have l0 := bt_le s 0
  have g1 := bt_nonneg s 1
  have l1 := bt_le s 1
  have g2 := bt_nonneg s 2
  have l2 := bt_le s 2
  have g3 := bt_nonneg s 3
  have l3 := bt_le s 3
  simp only [wrap_bt, wrap_sh s 1 256 (by decide) (by decide), wrap_sh s 2 65536 (by decide) (by decide), wrap_sh s 3 16777216 (by decide) (by decide)]
  rw [or_hi 24 (bt s 3 * 16777216) _ (by omega) (by omega) (by omega) (by omega) (by omega) (by omega), or_zero _ (by omega) (by omega), or_hi 16 (bt s 3 * 16777216 + bt s 2 * 65536) _ (by omega) (by omega) (by omega) (by omega) (by omega) (by omega), or_hi 8 _ _ (by omega) (by omega) (by omega) (by omega) (by omega) (by omega)]
  simp only [lev]
  omega
theorem val8 (s : ByteArray) : bits BinOp.or IntKind.u64 (bits BinOp.or IntKind.u64 (bits BinOp.or IntKind.u64 (bits BinOp.or IntKind.u64 (bits BinOp.or IntKind.u64 (bits BinOp.or IntKind.u64 (IntKind.u64.wrap (IntKind.u64.wrap (bt s 7) * 72057594037927936)) (IntKind.u64.wrap (IntKind.u64.wrap (bt s 6) * 281474976710656))) (IntKind.u64.wrap (IntKind.u64.wrap (bt s 5) * 1099511627776))) (IntKind.u64.wrap (IntKind.u64.wrap (bt s 4) * 4294967296))) (bits BinOp.or IntKind.u64 (IntKind.u64.wrap (IntKind.u64.wrap (bt s 3) * 16777216)) (IntKind.u64.wrap (IntKind.u64.wrap (bt s 2) * 65536)))) (IntKind.u64.wrap (IntKind.u64.wrap (bt s 1) * 256))) (IntKind.u64.wrap (bt s 0)) = lev s 8 := by
  have g0 := bt_nonneg s 0
  have l0 := bt_le s 0
  have g1 := bt_nonneg s 1
  have l1 := bt_le s 1
  have g2 := bt_nonneg s 2
  have l2 := bt_le s 2
  have g3 := bt_nonneg s 3
  have l3 := bt_le s 3
  have g4 := bt_nonneg s 4
  have l4 := bt_le s 4
  have g5 := bt_nonneg s 5
  have l5 := bt_le s 5
  have g6 := bt_nonneg s 6
  have l6 := bt_le s 6
  have g7 := bt_nonneg s 7
  have l7 := bt_le s 7
  simp only [wrap_bt, wrap_sh s 1 256 (by decide) (by decide), wrap_sh s 2 65536 (by decide) (by decide), wrap_sh s 3 16777216 (by decide) (by decide), wrap_sh s 4 4294967296 (by decide) (by decide), wrap_sh s 5 1099511627776 (by decide) (by decide), wrap_sh s 6 281474976710656 (by decide) (by decide), wrap_sh s 7 72057594037927936 (by decide) (by decide)]
  rw [or_hi 56 (bt s 7 * 72057594037927936) _ (by omega) (by omega) (by omega) (by omega) (by omega) (by omega), or_hi 48 (bt s 7 * 72057594037927936 + bt s 6 * 281474976710656) _ (by omega) (by omega) (by omega) (by omega) (by omega) (by omega), or_hi 40 (bt s 7 * 72057594037927936 + bt s 6 * 281474976710656 + bt s 5 * 1099511627776) _ (by omega) (by omega) (by omega) (by omega) (by omega) (by omega), or_hi 24 (bt s 3 * 16777216) _ (by omega) (by omega) (by omega) (by omega) (by omega) (by omega), or_hi 32 _ (bt s 3 * 16777216 + bt s 2 * 65536) (by omega) (by omega) (by omega) (by omega) (by omega) (by omega), or_hi 16 _ (bt s 1 * 256) (by omega) (by omega) (by omega) (by omega) (by omega) (by omega), or_hi 8 _ (bt s 0) (by omega) (by omega) (by omega) (by omega) (by omega) (by omega)]
  simp only [lev]
  omega
set_option maxRecDepth 100000 in
theorem unite1 (s : ByteArray) (w : World) (hs : 1 ≤ s.size) :
    Calls Tryz.prog 87 #[.string s, .int .i64 1] w fun e w' => e = .returned (.int .u64 (lev s 1)) ∧ ∃ n, w' = w.drewN n := by
  have hb := get_bt s
  have h0 : (0 : Int) < (s.size : Int) := by omega
  go_enter Tryz.func87, Tryz.ntmps87
  go_wp2
  go_ret
  exact ⟨ret_int (val1 s), 0, rfl⟩
set_option maxRecDepth 100000 in
theorem unite2 (s : ByteArray) (w : World) (hs : 2 ≤ s.size) :
    Calls Tryz.prog 87 #[.string s, .int .i64 2] w fun e w' => e = .returned (.int .u64 (lev s 2)) ∧ ∃ n, w' = w.drewN n := by
  have hb := get_bt s
  have h0 : (0 : Int) < (s.size : Int) := by omega
  have h1 : (1 : Int) < (s.size : Int) := by omega
  go_enter Tryz.func87, Tryz.ntmps87
  go_wp2
  go_ret
  exact ⟨ret_int (val2 s), 0, rfl⟩
set_option maxRecDepth 100000 in
theorem unite4 (s : ByteArray) (w : World) (hs : 4 ≤ s.size) :
    Calls Tryz.prog 87 #[.string s, .int .i64 4] w fun e w' => e = .returned (.int .u64 (lev s 4)) ∧ ∃ n, w' = w.drewN n := by
  have hb := get_bt s
  have h0 : (0 : Int) < (s.size : Int) := by omega
  have h1 : (1 : Int) < (s.size : Int) := by omega
  have h2 : (2 : Int) < (s.size : Int) := by omega
  have h3 : (3 : Int) < (s.size : Int) := by omega
  go_enter Tryz.func87, Tryz.ntmps87
  go_wp2
  go_quiet (fail)
  go_wp2
  go_ret
  exact ⟨ret_int (val4 s), _, rfl⟩
set_option maxRecDepth 100000 in
theorem unite8 (s : ByteArray) (w : World) (hs : 8 ≤ s.size) :
    Calls Tryz.prog 87 #[.string s, .int .i64 8] w fun e w' => e = .returned (.int .u64 (lev s 8)) ∧ ∃ n, w' = w.drewN n := by
  have hb := get_bt s
  have h0 : (0 : Int) < (s.size : Int) := by omega
  have h1 : (1 : Int) < (s.size : Int) := by omega
  have h2 : (2 : Int) < (s.size : Int) := by omega
  have h3 : (3 : Int) < (s.size : Int) := by omega
  have h4 : (4 : Int) < (s.size : Int) := by omega
  have h5 : (5 : Int) < (s.size : Int) := by omega
  have h6 : (6 : Int) < (s.size : Int) := by omega
  have h7 : (7 : Int) < (s.size : Int) := by omega
  go_enter Tryz.func87, Tryz.ntmps87
  go_wp2
  go_quiet (fail)
  go_wp2
  go_quiet (fail)
  go_wp2
  go_ret
  exact ⟨ret_int (val8 s), _, rfl⟩
end Go.Proofs.YtkcbmkedhipgeaaGreatDoor

namespace Go.Proofs.YtkcbmkedhipgeaaGreatDoor
open Go.RowKit Go.Extern.Stop Go.Stop Go.Extern Go.PlainAid Go.Lib

/-- A reader in block b: its bytes s; it stands at a. -/
def Rdr (w : World) (b : Nat) (s : ByteArray) (a : Nat) : Prop :=
  w.cell? ⟨b, 0, none⟩ = some (.string s) ∧ w.cell? ⟨b, 1, none⟩ = some (.int .i64 a) ∧ w.frozen? ⟨b, 1, none⟩ = false

theorem Rdr.lt {w : World} {b a : Nat} {s : ByteArray} (h : Rdr w b s a) : b < w.heap.size := cell_lt h.1
theorem Rdr.belowB {w w' : World} {B : Nat} (hb : Below B w w') {b a : Nat} {s : ByteArray} (hB : b < B) (h : Rdr w b s a) : Rdr w' b s a :=
  ⟨by rw [hb.cell (p := ⟨b, 0, none⟩) hB]; exact h.1, by rw [hb.cell (p := ⟨b, 1, none⟩) hB]; exact h.2.1, by rw [hb.frozen (p := ⟨b, 1, none⟩) hB]; exact h.2.2⟩
theorem Rdr.below {w w' : World} (hb : Below w.heap.size w w') {b a : Nat} {s : ByteArray} (h : Rdr w b s a) : Rdr w' b s a := h.belowB hb h.lt

theorem below_of_drew {w w' : World} (h : ∃ n, w' = w.drewN n) (B : Nat) : Below B w w' := by
  obtain ⟨n, rfl⟩ := h; exact below_drewN (Below.refl _ _) n

theorem newReader (s : ByteArray) (w : World) :
    Calls Tryz.prog 54 #[.string s] w fun e w' => e = .returned (.pointer (some ⟨w.heap.size, 0, none⟩)) ∧ Rdr w' w.heap.size s 0 ∧ Below w.heap.size w w' ∧ w.heap.size < w'.heap.size := by
  go_enter Tryz.func54, Tryz.ntmps54
  go_wp2
  go_ret
  exact ⟨rfl, ⟨by simp, by simp, by simp⟩, by go_grown, by simp⟩

theorem left_any (b a : Nat) (s : ByteArray) (w : World) (hR : Rdr w b s a) (ha : a ≤ s.size) (hs : s.size ≤ 1000000000) :
    Calls Tryz.prog 86 #[.pointer (some ⟨b, 0, none⟩)] w fun e w' => e = .returned (.int .i64 ((s.size - a : Nat) : Int)) ∧ ∃ n, w' = w.drewN n := by
  obtain ⟨h0, h1, h2⟩ := hR
  have e1 : IntKind.i64.wrap ((s.size : Int) - (a : Int)) = ((s.size - a : Nat) : Int) := by rw [IntWalk.i64_in _ (by omega)]; omega
  go_enter Tryz.func86, Tryz.ntmps86
  go_wp2
  go_quiet (fail)
  go_wp2
  go_ret
  refine ⟨ret_int ?_, _, rfl⟩
  first | exact e1 | omega

theorem rfault (b a : Nat) (s : ByteArray) (E : Int) (u : Value) (es : List Int) (w : World) (hE : E ≠ 0) (hR : Rdr w b s a) (hu : Chained w u es) :
    Calls Tryz.prog 85 #[.pointer (some ⟨b, 0, none⟩), .int .i64 E, u] w fun e w' => ∃ v, e = .returned v ∧ Chained w' v (E :: es) ∧ Below w.heap.size w w' := by
  obtain ⟨h0, h1, h2⟩ := hR
  have HP := Lib.hid (fun at_ => wrap_new E at_ u es w hE hu)
  clear hu h0 h2
  go_enter Tryz.func85, Tryz.ntmps85
  go_wp2_with (go_at_call 89; refine (HP.out _).mono ?_; rintro e w' ⟨v, rfl, hP⟩)
  go_ret
  exact ⟨v, rfl, hP⟩

theorem end_ok (b : Nat) (s : ByteArray) (w : World) (hR : Rdr w b s s.size) (hs : s.size ≤ 1000000000) :
    Calls Tryz.prog 79 #[.pointer (some ⟨b, 0, none⟩)] w fun e w' => e = .returned .nilIface ∧ Below w.heap.size w w' := by
  have HL := Lib.hid (left_any b s.size s w hR (Nat.le_refl _) hs)
  clear hR
  go_enter Tryz.func79, Tryz.ntmps79
  go_wp2_with fail
  go_at_call 86
  refine HL.out.mono ?_
  rintro e w1 ⟨rfl, hw⟩
  have HW := Lib.hid (below_of_drew hw w.heap.size)
  clear hw
  simp only [Nat.sub_self]
  go_wp2
  go_ret
  exact ⟨rfl, HW.out⟩

theorem end_bad (b a : Nat) (s : ByteArray) (w : World) (hR : Rdr w b s a) (ha : a < s.size) (hs : s.size ≤ 1000000000) :
    Calls Tryz.prog 79 #[.pointer (some ⟨b, 0, none⟩)] w fun e w' => ∃ v, e = .returned v ∧ Chained w' v [11] ∧ Below w.heap.size w w' := by
  have HL := Lib.hid (left_any b a s w hR (by omega) hs)
  have HR := Lib.hid hR
  have hpos : (0 : Int) < ((s.size - a : Nat) : Int) := by omega
  clear hR
  go_enter Tryz.func79, Tryz.ntmps79
  go_wp2_with fail
  go_at_call 86
  refine HL.out.mono ?_
  rintro e w1 ⟨rfl, hw⟩
  have HW := Lib.hid (below_of_drew hw w.heap.size)
  clear hw
  generalize (((s.size - a : Nat)) : Int) = d at hpos ⊢
  go_wp2_with (go_at_call 85; refine (rfault b a s 11 _ [] _ (by decide) (HR.out.below HW.out) rfl).mono ?_; rintro e w' ⟨v, rfl, hc, hb⟩)
  go_ret
  exact ⟨v, rfl, hc, HW.out.trans (hb.mono HW.out.size)⟩
end Go.Proofs.YtkcbmkedhipgeaaGreatDoor

namespace Go.Proofs.YtkcbmkedhipgeaaGreatDoor
open Go.RowKit Go.Extern.Stop Go.Stop Go.Extern Go.PlainAid Go.Lib

theorem unite_any (s : ByteArray) (k : Int) (w : World) (hk : Width k) (hs : k.toNat ≤ s.size) :
    Calls Tryz.prog 87 #[.string s, .int .i64 k] w fun e w' => e = .returned (.int .u64 (lev s k.toNat)) ∧ ∃ n, w' = w.drewN n := by
  rcases hk with rfl | rfl | rfl | rfl
  · exact unite1 s w hs
  · exact unite2 s w hs
  · exact unite4 s w hs
  · exact unite8 s w hs

theorem rnum_arg (b a : Nat) (s : ByteArray) (k : Int) (w : World) (hR : Rdr w b s a) (hk : ¬ Width k) :
    Calls Tryz.prog 74 #[.pointer (some ⟨b, 0, none⟩), .int .i64 k] w fun e w' => ∃ v, e = .returned (.tuple #[.int .i64 0, v]) ∧ Chained w' v [1] ∧ Below w.heap.size w w' := by
  have HW := Lib.hid (isWidth_no k w (fun h => hk (.inl h)) (fun h => hk (.inr (.inl h))) (fun h => hk (.inr (.inr (.inl h)))) (fun h => hk (.inr (.inr (.inr h)))))
  have HP := Lib.hid (rfault b a s 1 .nilIface [] w (by decide) hR rfl)
  clear hR hk
  go_enter Tryz.func74, Tryz.ntmps74
  go_wp2_with (first
    | (go_at_call 81; refine HW.out.mono ?_; rintro e w' ⟨rfl, rfl⟩)
    | (go_at_call 85; refine HP.out.mono ?_; rintro e w' ⟨v, rfl, hc, hb⟩))
  go_ret2
  exact ⟨v, rfl, hc, hb⟩

theorem rnum_short (b a : Nat) (s : ByteArray) (k : Int) (w : World) (hR : Rdr w b s a) (ha : a ≤ s.size) (hs : s.size ≤ 1000000000) (hk : Width k) (hl : ((s.size - a : Nat) : Int) < k) :
    Calls Tryz.prog 74 #[.pointer (some ⟨b, 0, none⟩), .int .i64 k] w fun e w' => ∃ v, e = .returned (.tuple #[.int .i64 0, v]) ∧ Chained w' v [10] ∧ Below w.heap.size w w' := by
  have HL := Lib.hid (left_any b a s w hR ha hs)
  have HR := Lib.hid hR
  clear hR ha hs
  generalize ((s.size - a : Nat) : Int) = d at hl HL
  go_enter Tryz.func74, Tryz.ntmps74
  go_wp2_with fail
  go_at_call 81
  refine (isWidth_yes _ _ hk).mono ?_
  rintro e w' ⟨rfl, rfl⟩
  go_wp2_with fail
  go_at_call 86
  refine HL.out.mono ?_
  rintro e w1 ⟨rfl, hw⟩
  have HW := Lib.hid (below_of_drew hw w.heap.size)
  clear hw
  go_wp2_with (go_at_call 85; refine (rfault b a s 10 _ [] _ (by decide) (HR.out.below HW.out) rfl).mono ?_; rintro e w' ⟨v, rfl, hc, hb⟩)
  go_ret2
  exact ⟨v, rfl, hc, HW.out.trans (hb.mono HW.out.size)⟩

theorem Rdr.stored {w w1 : World} {b a : Nat} {s : ByteArray} (hb : Below w.heap.size w w1) (h : Rdr w1 b s a) (c : Nat) :
    Rdr (w1.setCell ⟨b, 1, none⟩ (.int .i64 c)) b s c ∧ Fr b none w (w1.setCell ⟨b, 1, none⟩ (.int .i64 c)) := by
  obtain ⟨h0, h1, h2⟩ := h
  refine ⟨⟨?_, World.cell?_setCell_same _ _ _ h1, by rw [World.frozen?_setCell]; exact h2⟩, ⟨hb.os, hb.tape, hb.output, by simp [World.setCell]; exact hb.size, fun k hk hkb _ => ?_⟩⟩
  · rw [World.cell?_setCell_other _ _ _ _ (by simp)]; exact h0
  · rw [Below.heap_setCell _ _ _ _ (by simpa using hkb)]; exact hb.block k hk

set_option maxRecDepth 100000 in
theorem rnum_ok (b a : Nat) (s : ByteArray) (k : Int) (w : World) (hR : Rdr w b s a) (ha : a ≤ s.size) (hs : s.size ≤ 1000000000) (hk : Width k) (hl : k ≤ ((s.size - a : Nat) : Int)) (hv : lev (s.extract a s.size) k.toNat ≤ 9223372036854775807) (hv0 : 0 ≤ lev (s.extract a s.size) k.toNat) :
    Calls Tryz.prog 74 #[.pointer (some ⟨b, 0, none⟩), .int .i64 k] w fun e w' => e = .returned (.tuple #[.int .i64 (lev (s.extract a s.size) k.toNat), .nilIface]) ∧ Rdr w' b s (a + k.toNat) ∧ Fr b none w w' := by
  have HL := Lib.hid (left_any b a s w hR ha hs)
  have HR := Lib.hid hR
  have HU := Lib.hid (fun W => unite_any (s.extract a s.size) k W hk (by simp; omega))
  have hk0 : 0 ≤ k ∧ k ≤ 8 := by unfold Width at hk; omega
  have ha0 : (0 : Int) ≤ (a : Int) := Int.natCast_nonneg _
  have haI : (a : Int) ≤ (s.size : Int) := by omega
  have hld : (decide (((s.size - a : Nat) : Int) < k)) = false := by simp only [decide_eq_false_iff_not]; omega
  have hge : decide ((9223372036854775808 : Int) ≤ lev (s.extract a s.size) k.toNat) = false := by simp only [decide_eq_false_iff_not]; omega
  have hcv : IntKind.i64.wrap (lev (s.extract a s.size) k.toNat) = lev (s.extract a s.size) k.toNat := IntWalk.i64_in _ (by omega)
  have hadd : (a : Int) + k ≤ 2000000000 := by omega
  clear hR hl
  generalize lev (s.extract a s.size) k.toNat = V at HU hv hv0 hge hcv ⊢
  clear hv hv0
  generalize ((s.size - a : Nat) : Int) = d at hld HL
  go_enter Tryz.func74, Tryz.ntmps74
  go_wp2_with fail
  go_at_call 81
  refine (isWidth_yes _ _ hk).mono ?_
  rintro e w' ⟨rfl, rfl⟩
  go_wp2_with fail
  go_at_call 86
  refine HL.out.mono ?_
  rintro e w1 ⟨rfl, hw⟩
  have HW := Lib.hid (below_of_drew hw w.heap.size)
  obtain ⟨h0, h1, h2⟩ := HR.out.below HW.out
  clear hw
  go_wp2_with fail
  go_quiet ((go_at_call 87; exact Calls.quiet_of (HU.out _)))
  go_wp2
  go_ret2
  have ek : (a : Int) + k = ((a + k.toNat : Nat) : Int) := by omega
  rw [ek]
  exact ⟨rfl, Rdr.stored (below_drewN HW.out nq) ⟨h0, h1, h2⟩ _⟩

set_option maxRecDepth 100000 in
theorem rnum_long (b a : Nat) (s : ByteArray) (k : Int) (w : World) (hR : Rdr w b s a) (ha : a ≤ s.size) (hs : s.size ≤ 1000000000) (hk : Width k) (hl : k ≤ ((s.size - a : Nat) : Int)) (hv : 9223372036854775807 < lev (s.extract a s.size) k.toNat) :
    Calls Tryz.prog 74 #[.pointer (some ⟨b, 0, none⟩), .int .i64 k] w fun e w' => ∃ v, e = .returned (.tuple #[.int .i64 0, v]) ∧ Chained w' v [11] ∧ Below w.heap.size w w' := by
  have HL := Lib.hid (left_any b a s w hR ha hs)
  have HR := Lib.hid hR
  have HU := Lib.hid (fun W => unite_any (s.extract a s.size) k W hk (by simp; omega))
  have ha0 : (0 : Int) ≤ (a : Int) := Int.natCast_nonneg _
  have haI : (a : Int) ≤ (s.size : Int) := by omega
  have hld : (decide (((s.size - a : Nat) : Int) < k)) = false := by simp only [decide_eq_false_iff_not]; omega
  have hge : decide ((9223372036854775808 : Int) ≤ lev (s.extract a s.size) k.toNat) = true := by simp only [decide_eq_true_eq]; omega
  clear hR hl hv
  generalize lev (s.extract a s.size) k.toNat = V at HU hge
  generalize ((s.size - a : Nat) : Int) = d at hld HL
  go_enter Tryz.func74, Tryz.ntmps74
  go_wp2_with fail
  go_at_call 81
  refine (isWidth_yes _ _ hk).mono ?_
  rintro e w' ⟨rfl, rfl⟩
  go_wp2_with fail
  go_at_call 86
  refine HL.out.mono ?_
  rintro e w1 ⟨rfl, hw⟩
  have HW := Lib.hid (below_of_drew hw w.heap.size)
  obtain ⟨h0, h1, h2⟩ := HR.out.below HW.out
  clear hw
  go_wp2_with fail
  go_quiet ((go_at_call 87; exact Calls.quiet_of (HU.out _)))
  go_wp2_with (go_at_call 85; refine (rfault b a s 11 _ [] _ (by decide) (Rdr.below (below_drewN (Below.refl _ _) _) (HR.out.below HW.out)) rfl).mono ?_; rintro e w' ⟨v, rfl, hc, hb⟩)
  go_ret2
  exact ⟨v, rfl, hc, (below_drewN HW.out nq).trans (hb.mono HW.out.size)⟩
end Go.Proofs.YtkcbmkedhipgeaaGreatDoor

namespace Go.Proofs.YtkcbmkedhipgeaaGreatDoor
open Go.RowKit Go.Extern.Stop Go.Stop Go.Extern Go.PlainAid Go.Lib

theorem width2 : Width 2 := .inr (.inl rfl)
theorem lev2_bounds (s : ByteArray) : 0 ≤ lev s 2 ∧ lev s 2 ≤ 65535 := by
  have := bt_nonneg s 0; have := bt_nonneg s 1; have := bt_le s 0; have := bt_le s 1
  simp only [lev]; omega

set_option maxRecDepth 100000 in
theorem rtext_few (b a : Nat) (s : ByteArray) (w : World) (hg : ErrType w) (hR : Rdr w b s a) (ha : a ≤ s.size) (hs : s.size ≤ 1000000000) (hl : s.size - a < 2) :
    Calls Tryz.prog 76 #[.pointer (some ⟨b, 0, none⟩)] w fun e w' => ∃ v, e = .returned (.tuple #[.string ⟨#[]⟩, v]) ∧ Chained w' v [10, 10] ∧ Below w.heap.size w w' := by
  have HG := Lib.hid hg
  have HR := Lib.hid hR
  have hbl := hR.lt
  have hlI : ((s.size - a : Nat) : Int) < 2 := by omega
  have HL := Lib.hid hlI
  obtain ⟨h0, h1, h2⟩ := hR
  clear hg hlI hl
  go_enter Tryz.func76, Tryz.ntmps76
  go_wp2_with fail
  go_at_call 74
  refine (rnum_short w.heap.size a s 2 _ ⟨by simp, by simp, by simp⟩ ha hs width2 HL.out).mono ?_
  rintro e w1 ⟨v, rfl, hc, hb⟩
  have HB := Lib.hid (show Below w.heap.size w w1 from ((Below.refl _ _).alloc (Nat.le_refl _) _).trans (hb.mono (by simp)))
  have HC := Lib.hid hc
  obtain ⟨vb, vo, vu, hvv, _⟩ := hc
  subst hvv
  clear hb h0 h1 h2
  go_wp2_with fail
  go_at_call 88
  refine (code_any _ [10] _ (HG.out.below HB.out) HC.out (by decide)).mono ?_
  rintro e w2 ⟨rfl, hb2⟩
  have HB2 := Lib.hid (HB.out.trans (hb2.mono HB.out.size))
  have HC2 := Lib.hid (HC.out.below hb2)
  clear hb2
  go_wp2_with (go_at_call 85; refine (rfault b a s 10 _ [10] _ (by decide) (HR.out.below HB2.out) HC2.out).mono ?_; rintro e w' ⟨v, rfl, hc, hb⟩)
  go_ret2
  exact ⟨v, rfl, hc, HB2.out.trans (hb.mono HB2.out.size)⟩

set_option maxRecDepth 100000 in
theorem rtext_long (b a : Nat) (s : ByteArray) (w : World) (hR : Rdr w b s a) (ha : a ≤ s.size) (hs : s.size ≤ 1000000000) (hl : 2 ≤ s.size - a) (hL : 1024 < lev (s.extract a s.size) 2) :
    Calls Tryz.prog 76 #[.pointer (some ⟨b, 0, none⟩)] w fun e w' => ∃ v, e = .returned (.tuple #[.string ⟨#[]⟩, v]) ∧ Chained w' v [11] ∧ Below w.heap.size w w' := by
  have HR := Lib.hid hR
  have hbl := hR.lt
  have hb2 := lev2_bounds (s.extract a s.size)
  have hlI : (2 : Int) ≤ ((s.size - a : Nat) : Int) := by omega
  have HL := Lib.hid hlI
  have HN := Lib.hid (fun W hW => rnum_ok w.heap.size a s 2 W hW ha hs width2 HL.out (by show lev (s.extract a s.size) 2 ≤ _; omega) (by show 0 ≤ lev (s.extract a s.size) 2; omega))
  obtain ⟨h0, h1, h2⟩ := hR
  clear hlI hl
  have HN' := Lib.hid (show ∀ W, Rdr W w.heap.size s a → Calls Tryz.prog 74 #[.pointer (some ⟨w.heap.size, 0, none⟩), .int .i64 2] W fun e w' => e = .returned (.tuple #[.int .i64 (lev (s.extract a s.size) 2), .nilIface]) ∧ Rdr w' w.heap.size s (a + 2) ∧ Fr w.heap.size none W w' from fun W hW => HN.out W hW)
  clear HN hb2
  generalize lev (s.extract a s.size) 2 = L at hL HN'
  go_enter Tryz.func76, Tryz.ntmps76
  go_wp2_with fail
  go_at_call 74
  refine (HN'.out _ ⟨by simp, by simp, by simp⟩).mono ?_
  rintro e w1 ⟨rfl, hr1, hf1⟩
  have HB := Lib.hid (show Below w.heap.size w w1 from ((Below.refl _ _).alloc (Nat.le_refl _) _).trans (hf1.below (by simp) (fun g hg => by cases hg)))
  clear hr1 hf1 h0 h1 h2
  go_wp2_with (go_at_call 85; refine (rfault b a s 11 _ [] _ (by decide) (HR.out.below HB.out) rfl).mono ?_; rintro e w' ⟨v, rfl, hc, hb⟩)
  go_ret2
  exact ⟨v, rfl, hc, HB.out.trans (hb.mono HB.out.size)⟩

set_option maxRecDepth 100000 in
theorem rtext_short (b a : Nat) (s : ByteArray) (w : World) (hR : Rdr w b s a) (ha : a ≤ s.size) (hs : s.size ≤ 1000000000) (hl : 2 ≤ s.size - a) (hL : lev (s.extract a s.size) 2 ≤ 1024) (hf : ((s.size - (a + 2) : Nat) : Int) < lev (s.extract a s.size) 2) :
    Calls Tryz.prog 76 #[.pointer (some ⟨b, 0, none⟩)] w fun e w' => ∃ v, e = .returned (.tuple #[.string ⟨#[]⟩, v]) ∧ Chained w' v [10] ∧ Below w.heap.size w w' := by
  have HR := Lib.hid hR
  have hbl := hR.lt
  have hb2 := lev2_bounds (s.extract a s.size)
  have hlI : (2 : Int) ≤ ((s.size - a : Nat) : Int) := by omega
  have HL := Lib.hid hlI
  have HN := Lib.hid (fun W hW => rnum_ok w.heap.size a s 2 W hW ha hs width2 HL.out (by show lev (s.extract a s.size) 2 ≤ _; omega) (by show 0 ≤ lev (s.extract a s.size) 2; omega))
  have HLf := Lib.hid (fun W hW => left_any w.heap.size (a + 2) s W hW (by omega) hs)
  obtain ⟨h0, h1, h2⟩ := hR
  clear hlI hl
  have HN' := Lib.hid (show ∀ W, Rdr W w.heap.size s a → Calls Tryz.prog 74 #[.pointer (some ⟨w.heap.size, 0, none⟩), .int .i64 2] W fun e w' => e = .returned (.tuple #[.int .i64 (lev (s.extract a s.size) 2), .nilIface]) ∧ Rdr w' w.heap.size s (a + 2) ∧ Fr w.heap.size none W w' from fun W hW => HN.out W hW)
  clear HN hb2
  generalize lev (s.extract a s.size) 2 = L at hL HN' hf
  generalize ((s.size - (a + 2) : Nat) : Int) = d at hf HLf
  go_enter Tryz.func76, Tryz.ntmps76
  go_wp2_with fail
  go_at_call 74
  refine (HN'.out _ ⟨by simp, by simp, by simp⟩).mono ?_
  rintro e w1 ⟨rfl, hr1, hf1⟩
  have HB := Lib.hid (show Below w.heap.size w w1 from ((Below.refl _ _).alloc (Nat.le_refl _) _).trans (hf1.below (by simp) (fun g hg => by cases hg)))
  have HR1 := Lib.hid hr1
  clear hr1 hf1 h0 h1 h2
  go_wp2_with fail
  go_at_call 86
  refine (HLf.out _ HR1.out).mono ?_
  rintro e w2 ⟨rfl, hw⟩
  have HB2 := Lib.hid (HB.out.trans (below_of_drew hw w.heap.size))
  clear hw
  go_wp2_with (go_at_call 85; refine (rfault b a s 10 _ [] _ (by decide) (HR.out.below HB2.out) rfl).mono ?_; rintro e w' ⟨v, rfl, hc, hb⟩)
  go_ret2
  exact ⟨v, rfl, hc, HB2.out.trans (hb.mono HB2.out.size)⟩

set_option maxRecDepth 100000 in
theorem rtext_ok (b a L : Nat) (s : ByteArray) (w : World) (hR : Rdr w b s a) (ha : a ≤ s.size) (hs : s.size ≤ 1000000000) (hl : 2 ≤ s.size - a) (hL : lev (s.extract a s.size) 2 = L) (hL2 : L ≤ 1024) (hf : L ≤ s.size - (a + 2)) :
    Calls Tryz.prog 76 #[.pointer (some ⟨b, 0, none⟩)] w fun e w' => e = .returned (.tuple #[.string (s.extract (a + 2) (a + 2 + L)), .nilIface]) ∧ Rdr w' b s (a + 2 + L) ∧ Fr b none w w' := by
  have HR := Lib.hid hR
  have hbl := hR.lt
  have hlI : (2 : Int) ≤ ((s.size - a : Nat) : Int) := by omega
  have HL := Lib.hid hlI
  have HN := Lib.hid (fun W hW => rnum_ok w.heap.size a s 2 W hW ha hs width2 HL.out (by show lev (s.extract a s.size) 2 ≤ _; omega) (by show 0 ≤ lev (s.extract a s.size) 2; omega))
  have HLf := Lib.hid (fun W hW => left_any w.heap.size (a + 2) s W hW (by omega) hs)
  obtain ⟨h0, h1, h2⟩ := hR
  have hfd : decide (((s.size - (a + 2) : Nat) : Int) < (L : Int)) = false := by simp only [decide_eq_false_iff_not]; omega
  have HN' := Lib.hid (show ∀ W, Rdr W w.heap.size s a → Calls Tryz.prog 74 #[.pointer (some ⟨w.heap.size, 0, none⟩), .int .i64 2] W fun e w' => e = .returned (.tuple #[.int .i64 (L : Int), .nilIface]) ∧ Rdr w' w.heap.size s (a + 2) ∧ Fr w.heap.size none W w' from fun W hW => by rw [← hL]; exact HN.out W hW)
  have hLI : (L : Int) ≤ 1024 := by omega
  have hLd : decide ((1024 : Int) < (L : Int)) = false := by simp only [decide_eq_false_iff_not]; omega
  have ha2 : (a : Int) + 2 + L ≤ (s.size : Int) := by omega
  clear HN hlI hL
  generalize ((s.size - (a + 2) : Nat) : Int) = d at hfd HLf
  go_enter Tryz.func76, Tryz.ntmps76
  go_wp2_with fail
  go_at_call 74
  refine (HN'.out _ ⟨by simp, by simp, by simp⟩).mono ?_
  rintro e w1 ⟨rfl, hr1, hf1⟩
  have HB := Lib.hid (show Below w.heap.size w w1 from ((Below.refl _ _).alloc (Nat.le_refl _) _).trans (hf1.below (by simp) (fun g hg => by cases hg)))
  have HR1 := Lib.hid hr1
  clear hr1 hf1 h0 h1 h2
  go_wp2_with fail
  go_at_call 86
  refine (HLf.out _ HR1.out).mono ?_
  rintro e w2 ⟨rfl, hw⟩
  have HB2 := Lib.hid (HB.out.trans (below_of_drew hw w.heap.size))
  obtain ⟨g0, g1, g2⟩ := HR1.out.below (below_of_drew hw _)
  obtain ⟨k0, k1, k2⟩ := HR.out.below HB2.out
  have hne : b ≠ w.heap.size := by omega
  clear hw
  go_wp2
  have hst := Rdr.stored HB2.out ⟨k0, k1, k2⟩ (a + 2 + L)
  have g1' : (w2.setCell ⟨b, 1, none⟩ (.int .i64 ((a + 2 + L : Nat) : Int))).cell? ⟨w.heap.size, 1, none⟩ = some (.int .i64 ((a + 2 : Nat) : Int)) := by
    rw [World.cell?_setCell_other _ _ _ _ (by simp), g1]
  have ec : (a : Int) + 2 + (L : Int) = ((a + 2 + L : Nat) : Int) := by omega
  rw [ec]
  have e3 : ((a + 2 + L : Nat) : Int) ≤ (s.size : Int) := by omega
  have e4 : ((a + 2 : Nat) : Int) ≤ ((a + 2 + L : Nat) : Int) := by omega
  clear g0 g1 g2 k0 k1 k2 ec
  generalize w2.setCell ⟨b, 1, none⟩ (.int .i64 ((a + 2 + L : Nat) : Int)) = w3 at hst g1' ⊢
  obtain ⟨⟨m0, m1, m2⟩, hfr⟩ := hst
  generalize hM : a + 2 + L = M at m1 e3 e4
  have HM := Lib.hid hM
  clear hM
  generalize hN : a + 2 = N at g1' e4
  have HN := Lib.hid hN
  clear hN
  have e6 : (0 : Int) ≤ (N : Int) := Int.natCast_nonneg _
  have e7 : (0 : Int) ≤ (M : Int) := Int.natCast_nonneg _
  have e8 : N ≤ M := by omega
  have e9 : M ≤ s.size := by omega
  clear ha2 hL2 hf hl
  go_quiet (fail)
  go_wp2
  go_ret2
  rw [HM.out, HN.out]
  refine ⟨by simp, ⟨m0, m1, m2⟩, ⟨hfr.os, hfr.tape, hfr.output, hfr.size, hfr.block⟩⟩
end Go.Proofs.YtkcbmkedhipgeaaGreatDoor

namespace Go.Proofs.YtkcbmkedhipgeaaGreatDoor
open Go.RowKit Go.Extern.Stop Go.Stop Go.Extern Go.PlainAid Go.Lib

def Byt (bs : List Int) : Prop := ∀ x ∈ bs, 0 ≤ x ∧ x ≤ 255
theorem Byt.nil : Byt [] := fun _ h => by cases h
theorem Byt.app {a b : List Int} (ha : Byt a) (hb : Byt b) : Byt (a ++ b) := fun x hx => by
  rcases List.mem_append.1 hx with h | h
  · exact ha x h
  · exact hb x h
theorem Byt.drop {a : List Int} (ha : Byt a) (n : Nat) : Byt (a.drop n) := fun x hx => ha x (List.mem_of_mem_drop hx)
theorem Byt.take {a : List Int} (ha : Byt a) (n : Nat) : Byt (a.take n) := fun x hx => ha x (List.mem_of_mem_take hx)
theorem byt_leb (n : Int) (k : Nat) : Byt (leb n k) := by
  intro x hx
  have hx' := List.mem_of_mem_take hx
  simp only [List.mem_cons, List.not_mem_nil, or_false] at hx'
  omega
theorem byt_nums (s : ByteArray) : Byt (nums s) := by
  intro x hx
  obtain ⟨c, _, rfl⟩ := List.mem_map.1 hx
  have := c.toNat_lt
  omega

theorem leb_len (n : Int) (k : Nat) (hk : k ≤ 8) : (leb n k).length = k := by simp [leb]; omega
theorem not_fits3 (n : Int) : ¬ Fits n 3 := by unfold Fits; omega

theorem bt_str (bs : List Int) (h : Byt bs) (i : Nat) (hi : i < bs.length) : bt (strOfNums bs) i = bs[i] := by
  unfold bt
  have hs : i < (strOfNums bs).size := by rw [strOfNums_size]; exact hi
  rw [dif_pos hs]
  have e : (strOfNums bs)[i]'hs = UInt8.ofNat (bs[i]).toNat := by
    have h2 : (strOfNums bs).data[i]? = some (UInt8.ofNat (bs[i]).toNat) := by simp [strOfNums, hi]
    exact (Array.getElem?_eq_some_iff.1 h2).2
  rw [e]
  have := h bs[i] (List.getElem_mem hi)
  simp [UInt8.toNat_ofNat']
  omega

theorem extract_str (bs : List Int) (a e : Nat) : (strOfNums bs).extract a e = strOfNums ((bs.drop a).take (e - a)) := by
  unfold strOfNums
  rw [ByteArray.extract_mk]
  simp [List.map_take, List.map_drop]
theorem extract_rest (bs : List Int) (a : Nat) : (strOfNums bs).extract a (strOfNums bs).size = strOfNums (bs.drop a) := by
  rw [extract_str, strOfNums_size]
  congr 1
  exact List.take_of_length_le (by simp)

theorem str_nums (s : ByteArray) : strOfNums (nums s) = s := by
  unfold strOfNums nums
  have : (List.map (fun n => UInt8.ofNat n.toNat) (List.map (fun c : UInt8 => (c.toNat : Int)) s.data.toList)) = s.data.toList := by
    rw [List.map_map]
    conv => rhs; rw [← List.map_id s.data.toList]
    apply List.map_congr_left
    intro c _
    simp
  rw [this]

theorem lev_leb (n k : Int) (post : List Int) (hf : Fits n k) (hp : Byt post) : lev (strOfNums (leb n k.toNat ++ post)) k.toNat = n := by
  obtain ⟨h0, hf⟩ := hf
  have hb : Byt (leb n k.toNat ++ post) := (byt_leb n k.toNat).app hp
  rcases hf with ⟨rfl, h⟩ | ⟨rfl, h⟩ | ⟨rfl, h⟩ | ⟨rfl, h⟩
  · have b0 := bt_str _ hb 0 (by simp [leb])
    simp only [Int.reduceToNat, leb, List.take, List.cons_append, List.getElem_cons_zero, List.nil_append] at b0
    simp only [Int.reduceToNat, leb, List.take, List.cons_append, List.nil_append, lev, b0]
    omega
  · have b0 := bt_str _ hb 0 (by simp [leb])
    have b1 := bt_str _ hb 1 (by simp [leb])
    simp only [Int.reduceToNat, leb, List.take, List.cons_append, List.getElem_cons_zero, List.getElem_cons_succ, List.nil_append] at b0 b1
    simp only [Int.reduceToNat, leb, List.take, List.cons_append, List.nil_append, lev, b0, b1]
    omega
  · have b0 := bt_str _ hb 0 (by simp [leb])
    have b1 := bt_str _ hb 1 (by simp [leb])
    have b2 := bt_str _ hb 2 (by simp [leb])
    have b3 := bt_str _ hb 3 (by simp [leb])
    simp only [Int.reduceToNat, leb, List.take, List.cons_append, List.getElem_cons_zero, List.getElem_cons_succ, List.nil_append] at b0 b1 b2 b3
    simp only [Int.reduceToNat, leb, List.take, List.cons_append, List.nil_append, lev, b0, b1, b2, b3]
    omega
  · have b0 := bt_str _ hb 0 (by simp [leb])
    have b1 := bt_str _ hb 1 (by simp [leb])
    have b2 := bt_str _ hb 2 (by simp [leb])
    have b3 := bt_str _ hb 3 (by simp [leb])
    have b4 := bt_str _ hb 4 (by simp [leb])
    have b5 := bt_str _ hb 5 (by simp [leb])
    have b6 := bt_str _ hb 6 (by simp [leb])
    have b7 := bt_str _ hb 7 (by simp [leb])
    simp only [Int.reduceToNat, leb, List.take, List.cons_append, List.getElem_cons_zero, List.getElem_cons_succ, List.nil_append] at b0 b1 b2 b3 b4 b5 b6 b7
    simp only [Int.reduceToNat, leb, List.take, List.cons_append, List.nil_append, lev, b0, b1, b2, b3, b4, b5, b6, b7]
    omega
end Go.Proofs.YtkcbmkedhipgeaaGreatDoor

namespace Go.Proofs.YtkcbmkedhipgeaaGreatDoor
open Go.RowKit Go.Extern.Stop Go.Stop Go.Extern Go.PlainAid Go.Lib

/-- A writer is as it was, where only other blocks have turned. -/
theorem Wrt.fr {w w' : World} {b c : Nat} {row rc : Option Nat} {bs : List Int} (h : Wrt w b row bs) (hf : Fr c rc w w') (h1 : b ≠ c) (h2 : some b ≠ rc) (h3 : ∀ g, row = some g → g ≠ c ∧ some g ≠ rc) : Wrt w' b row bs := by
  have hl := h.lt
  have hrl := fun g hg => h.row_lt (g := g) hg
  obtain ⟨s, hs, hfz, ho, hr⟩ := h
  have hblk := hf.block b hl h1 h2
  refine ⟨s, ?_, ?_, ?_, hr⟩
  · rw [World.cell?_of_block (w := w) (a := ⟨b, 0, none⟩) hblk]; exact hs
  · rw [World.frozen?_of_block (w := w) (a := ⟨b, 0, none⟩) hblk]; exact hfz
  · obtain ⟨o1, o2⟩ := ho
    refine ⟨o1, ?_⟩
    rcases o2 with o2 | ⟨g, cap, cur, hv, hg, hh, rest⟩
    · exact .inl o2
    · refine .inr ⟨g, cap, cur, hv, hg, ?_, rest⟩
      have hrow : row = some g := by rw [← hr, hv]; rfl
      obtain ⟨k1, k2⟩ := h3 g hrow
      rw [hf.block g (hrl g hrow).2 k1 k2]; exact hh

/-- Two writers, each in blocks of its own. -/
def Two (w : World) (b1 : Nat) (r1 : Option Nat) (bs1 : List Int) (b2 : Nat) (r2 : Option Nat) (bs2 : List Int) : Prop :=
  Wrt w b1 r1 bs1 ∧ Wrt w b2 r2 bs2 ∧ b1 ≠ b2 ∧ r1 ≠ some b2 ∧ r2 ≠ some b1 ∧ ∀ g, r1 = some g → r2 ≠ some g

theorem Two.swap {w : World} {b1 b2 : Nat} {r1 r2 : Option Nat} {bs1 bs2 : List Int} (h : Two w b1 r1 bs1 b2 r2 bs2) : Two w b2 r2 bs2 b1 r1 bs1 := by
  obtain ⟨h1, h2, h3, h4, h5, h6⟩ := h
  exact ⟨h2, h1, Ne.symm h3, h5, h4, fun g hg e => h6 g e hg⟩
theorem Two.below {w w' : World} {b1 b2 : Nat} {r1 r2 : Option Nat} {bs1 bs2 : List Int} (h : Two w b1 r1 bs1 b2 r2 bs2) (hb : Below w.heap.size w w') : Two w' b1 r1 bs1 b2 r2 bs2 := by
  obtain ⟨h1, h2, h3⟩ := h
  exact ⟨h1.below hb, h2.below hb, h3⟩
/-- The first one writes. -/
theorem Two.step {w w' : World} {b1 b2 : Nat} {r1 r1' r2 : Option Nat} {bs1 bs1' bs2 : List Int} (h : Two w b1 r1 bs1 b2 r2 bs2) (hw : Wrt w' b1 r1' bs1') (hr : RowOk r1 r1' w) (hf : Fr b1 r1 w w') : Two w' b1 r1' bs1' b2 r2 bs2 := by
  obtain ⟨h1, h2, h3, h4, h5, h6⟩ := h
  have l1 := h1.lt
  have l2 := h2.lt
  have hl2 := fun g hg => h2.row_lt (g := g) hg
  refine ⟨hw, h2.fr hf (Ne.symm h3) (Ne.symm h4) (fun g hg => ⟨fun e => h5 (by rw [hg, e]), fun e => h6 g e.symm hg⟩), h3, ?_, h5, ?_⟩
  · rcases hr with rfl | ⟨g, rfl, hg⟩
    · exact h4
    · intro e; injection e with e; omega
  · intro g hg e
    rcases hr with rfl | ⟨g', rfl, hg'⟩
    · exact h6 g hg e
    · injection hg with hg; have := (hl2 g e).2; omega

theorem str_append (a b : List Int) : strOfNums a ++ strOfNums b = strOfNums (a ++ b) := by
  apply ByteArray.ext
  simp [strOfNums, ByteArray.data_append]

/-- A number is read where it was written. -/
theorem rnum_at (b p : Nat) (pre post : List Int) (n k : Int) (S : ByteArray) (w : World) (hS : strOfNums (pre ++ leb n k.toNat ++ post) = S) (hp : pre.length = p) (hf : Fits n k) (hby : Byt post) (hz : S.size ≤ 1000000000) (hR : Rdr w b S p) :
    Calls Tryz.prog 74 #[.pointer (some ⟨b, 0, none⟩), .int .i64 k] w fun e w' => e = .returned (.tuple #[.int .i64 n, .nilIface]) ∧ Rdr w' b S (p + k.toNat) ∧ Fr b none w w' := by
  have hk : Width k := by unfold Fits at hf; unfold Width; omega
  have hk8 : k.toNat ≤ 8 ∧ 0 ≤ k := by unfold Width at hk; omega
  have hl := leb_len n k.toNat hk8.1
  have hn : 0 ≤ n ∧ n ≤ 9223372036854775807 := by unfold Fits at hf; omega
  have hsz : S.size = p + k.toNat + post.length := by rw [← hS, strOfNums_size]; simp only [List.length_append, hl, hp]
  have hv : lev (S.extract p S.size) k.toNat = n := by
    rw [← hS, extract_rest, List.append_assoc, List.drop_append, hp, Nat.sub_self, List.drop_zero, List.drop_of_length_le (by omega), List.nil_append]
    exact lev_leb n k post hf hby
  have := rnum_ok b p S k w hR (by omega) hz hk (by omega) (by rw [hv]; exact hn.2) (by rw [hv]; exact hn.1)
  rw [hv] at this
  exact this

/-- A text is read where it was written. -/
theorem rtext_at (b p : Nat) (pre post : List Int) (t S : ByteArray) (w : World) (hS : strOfNums (pre ++ leb (t.size : Int) 2 ++ nums t ++ post) = S) (hp : pre.length = p) (ht : t.size ≤ 1024) (hby : Byt post) (hz : S.size ≤ 1000000000) (hR : Rdr w b S p) :
    Calls Tryz.prog 76 #[.pointer (some ⟨b, 0, none⟩)] w fun e w' => e = .returned (.tuple #[.string t, .nilIface]) ∧ Rdr w' b S (p + 2 + t.size) ∧ Fr b none w w' := by
  have hl := leb_len (t.size : Int) 2 (by decide)
  have hn := nums_length t
  have hsz : S.size = p + 2 + t.size + post.length := by rw [← hS, strOfNums_size]; simp only [List.length_append, hl, hp, hn]
  have hv : lev (S.extract p S.size) 2 = (t.size : Int) := by
    rw [← hS, extract_rest, List.append_assoc, List.append_assoc, List.drop_append, hp, Nat.sub_self, List.drop_zero, List.drop_of_length_le (by omega), List.nil_append]
    exact lev_leb t.size 2 _ (by unfold Fits; omega) ((byt_nums t).app hby)
  have he : S.extract (p + 2) (p + 2 + t.size) = t := by
    rw [← hS, extract_str]
    have e1 : (pre ++ leb (t.size : Int) 2 ++ nums t ++ post).drop (p + 2) = nums t ++ post := by
      rw [List.append_assoc, List.drop_append, List.drop_of_length_le (by rw [List.length_append]; omega), List.nil_append, List.length_append, hp, hl, Nat.sub_self, List.drop_zero]
    have e2 : p + 2 + t.size - (p + 2) = (nums t).length := by omega
    rw [e1, e2, List.take_left, str_nums]
  have := rtext_ok b p t.size S w hR (by omega) hz (by omega) hv ht (by omega)
  rw [he] at this
  exact this
end Go.Proofs.YtkcbmkedhipgeaaGreatDoor
