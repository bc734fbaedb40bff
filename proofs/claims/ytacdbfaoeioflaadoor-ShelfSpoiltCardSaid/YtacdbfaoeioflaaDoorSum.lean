/-
  The sum of a text (package check), by a contract: it is the document's.
-/
import Derived.Test.YtacdbfaoeioflaaDoorTake
namespace Go.Proofs.YtacdbfaoeioflaaDoor
open Go.RowKit

theorem take_snoc (s : ByteArray) (k : Nat) (h : k < s.size) : s.data.toList.take (k + 1) = s.data.toList.take k ++ [s[k]] := by
  rw [List.take_succ_eq_append_getElem (by simpa using h)]; rfl
theorem crc_snoc (s : ByteArray) (k : Nat) (h : k < s.size) : crc 4294967295 (s.data.toList.take (k + 1)) = stepB (crc 4294967295 (s.data.toList.take k)) s[k].toNat := by
  rw [take_snoc s k h, crc_append]; rfl
theorem take_all (s : ByteArray) (k : Nat) (h : ¬ k < s.size) : s.data.toList.take k = s.data.toList := List.take_of_length_le (by have : s.data.toList.length = s.size := rfl; omega)

theorem ret_u32 {k : IntKind} {a b : Int} (h : a = b) : Ending.returned (.int k a) = .returned (.int k b) := by rw [h]
theorem not_sum (s : ByteArray) : bits .xor .u32 IntKind.u32.max (crc 4294967295 s.data.toList : Int) = (sumOf s : Int) := by
  have h := u32_xor_nat 4294967295 (crc 4294967295 s.data.toList) (by omega) (crc_lt _ _ (by omega))
  have e : IntKind.u32.max = ((4294967295 : Nat) : Int) := by decide
  rw [e, h, Nat.xor_comm]; rfl

set_option maxRecDepth 100000 in
set_option maxHeartbeats 1000000 in
theorem sum_any (s : ByteArray) (w : World) (hT : Tab w) (hs : s.size ≤ 1000000000000) :
    Calls Tryd.prog 56 #[.string s] w fun e w' => e = .returned (.int .u32 (sumOf s : Int)) ∧ Below w.heap.size w w' := by
  have HT := Lib.hid hT
  have hG : w.heap.size ≠ 1 := by have := cell_in (hT 0 (by omega)); omega
  clear hT
  go_enter Tryd.func56, Tryd.ntmps56
  go_wp2
  go_loopw [10] (fun i wr => ∃ k : Nat, k ≤ s.size ∧ i = .int .i64 k ∧ wr.cell? ⟨w.heap.size, 0, none⟩ = some (.int .u32 (crc 4294967295 (s.data.toList.take k) : Int)) ∧ wr.frozen? ⟨w.heap.size, 0, none⟩ = false ∧ Below w.heap.size w wr) (fun i _ => s.size - (intOf i).toNat)
  case atStart =>
    exact ⟨0, Nat.zero_le _, rfl, by simp [crc_nil], by simp, (Below.refl _ _).alloc (Nat.le_refl _) _⟩
  case round =>
    obtain ⟨k, hk, rfl, hc, hf, hb⟩ := hrel
    by_cases hlt : k < s.size
    · have HC := Lib.hid hc
      have HF := Lib.hid hf
      have HB := Lib.hid hb
      have HW := Lib.hid (HT.out.below hb)
      have HL := Lib.hid (crc_lt (s.data.toList.take k) 4294967295 (by omega))
      clear hc hf hb
      go_wp2_with fail
      go_at_call 66
      refine (take_any w.heap.size _ _ wr HW.out hG HC.out HF.out HL.out (u8_lt _)).mono ?_
      rintro e w1 ⟨rfl, hc1, hf1, ho1⟩
      have HC1 := Lib.hid hc1
      have HF1 := Lib.hid hf1
      have HB1 := Lib.hid (HB.out.trans (ho1.below (Nat.le_refl _)))
      clear hc1 hf1 ho1
      go_wp2
      go_roundw
      case rel => exact ⟨k + 1, by omega, by go_num, by rw [crc_snoc s k hlt]; exact HC1.out, HF1.out, HB1.out⟩
      case measure => simp [intOf]; omega
    · rw [take_all s k hlt] at hc
      have HB := Lib.hid hb
      clear hb
      go_wp2
      go_ret
      exact ⟨ret_u32 (not_sum s), HB.out⟩
end Go.Proofs.YtacdbfaoeioflaaDoor
