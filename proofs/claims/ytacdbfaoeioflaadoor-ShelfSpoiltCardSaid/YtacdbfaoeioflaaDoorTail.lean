/-
  The bytes that are behind a text (package check), by a contract; the document's own.
-/
import Derived.Test.YtacdbfaoeioflaaDoorRsum
import Derived.Laws.BytesArg
namespace Go.Proofs.YtacdbfaoeioflaaDoor
open Go.RowKit

/-- A sum's four bytes, the lowest one first. -/
def four (n : Nat) : ByteArray := ⟨#[UInt8.ofNat (n % 256), UInt8.ofNat (n / 256 % 256), UInt8.ofNat (n / 65536 % 256), UInt8.ofNat (n / 16777216 % 256)]⟩
theorem four_str (n : Nat) : strOfNums [(n : Int) % 256, (n : Int) / 256 % 256, (n : Int) / 65536 % 256, (n : Int) / 16777216 % 256] = four n := by
  simp only [strOfNums, List.map, four]
  congr 1
theorem four_str' (n : Nat) (h : n < 4294967296) : strOfNums [(n : Int) % 256, (n : Int) / 256 % 256, (n : Int) / 65536 % 256, (n : Int) / 16777216] = four n := by
  rw [← four_str n]
  have e : (n : Int) / 16777216 % 256 = (n : Int) / 16777216 := by omega
  rw [e]
theorem conv4 (p0 p1 p2 p3 : Int) (t : TypeId) (w : World) :
    (convert 31 9 (.slice (some ⟨w.heap.size, 0, none⟩) 4 4)).run Tryd.prog (w.alloc (.cells #[.int .u8 p0, .int .u8 p1, .int .u8 p2, .int .u8 p3] t)) = .ok (.string (strOfNums [p0, p1, p2, p3])) (w.alloc (.cells #[.int .u8 p0, .int .u8 p1, .int .u8 p2, .int .u8 p3] t)) :=
  run_convert_bytes_arg _ 31 5 Tryd.underlying31 Tryd.underlying5 w.heap.size 0 4 4 [p0, p1, p2, p3] rfl (fun i hi => by
    rcases i with _ | _ | _ | _ | i
    · simp
    · simp
    · simp
    · simp
    · omega) 9 Tryd.underlying9

theorem four_size (n : Nat) : (four n).size = 4 := rfl
theorem conv_four (n : Nat) (h : n < 4294967296) (t : TypeId) (w : World) :
    (convert 31 9 (.slice (some ⟨w.heap.size, 0, none⟩) 4 4)).run Tryd.prog (w.alloc (.cells #[.int .u8 ((n : Int) % 256), .int .u8 ((n : Int) / 256 % 256), .int .u8 ((n : Int) / 65536 % 256), .int .u8 ((n : Int) / 16777216)] t)) = .ok (.string (four n)) (w.alloc (.cells #[.int .u8 ((n : Int) % 256), .int .u8 ((n : Int) / 256 % 256), .int .u8 ((n : Int) / 65536 % 256), .int .u8 ((n : Int) / 16777216)] t)) := by
  rw [← four_str' n h]
  exact conv4 _ _ _ _ t w

set_option maxRecDepth 100000 in
set_option maxHeartbeats 1000000 in
theorem tail_any (s : ByteArray) (w : World) (hT : Tab w) (hs : s.size ≤ 1000000000000) :
    Calls Tryd.prog 37 #[.string s] w fun e w' => e = .returned (.string (four (sumOf s))) ∧ Below w.heap.size w w' := by
  have HT := Lib.hid hT
  have hn := sumOf_lt s
  clear hT
  go_enter Tryd.func37, Tryd.ntmps37
  go_wp2_with fail
  go_at_call 56
  refine (sum_any s w HT.out hs).mono ?_
  rintro e w1 ⟨rfl, hb1⟩
  have HB1 := Lib.hid hb1
  clear hb1
  generalize hN : sumOf s = n at hn ⊢
  have HN := Lib.hid hN
  clear hN
  have hcv := conv_four n hn 120 w1
  go_wp2
  go_rounds 5
  go_ret
  exact ⟨by rw [HN.out]; rfl, HB1.out.trans (((Below.refl _ _).alloc (Nat.le_refl _) _).mono HB1.out.size)⟩

set_option maxRecDepth 100000 in
set_option maxHeartbeats 1000000 in
theorem rseal_any (s : ByteArray) (w : World) (hs : s.size ≤ 1000000000000) :
    Calls Tryd.prog 16 #[.string s] w fun e w' => e = .returned (.string (s ++ four (sumOf s))) ∧ Below w.heap.size w w' := by
  have hn := sumOf_lt s
  go_enter Tryd.func16, Tryd.ntmps16
  go_wp2_with fail
  go_at_call 40
  refine (rsum_any s w hs).mono ?_
  rintro e w1 ⟨rfl, rfl⟩
  generalize hN : sumOf s = n at hn ⊢
  have HN := Lib.hid hN
  clear hN
  have hcv := conv_four n hn 5 w
  have hz : (four n).size ≤ 4 := Nat.le_of_eq (four_size n)
  go_wp2
  go_ret
  exact ⟨by rw [HN.out]; rfl, by go_grown⟩

theorem seal_any (s : ByteArray) (w : World) (hT : Tab w) (hs : s.size ≤ 1000000000000) :
    Calls Tryd.prog 14 #[.string s] w fun e w' => e = .returned (.string (s ++ four (sumOf s))) ∧ Below w.heap.size w w' := by
  have HT := Lib.hid hT
  clear hT
  go_enter Tryd.func14, Tryd.ntmps14
  go_wp2_with fail
  go_at_call 37
  refine (tail_any s w HT.out hs).mono ?_
  rintro e w1 ⟨rfl, hb1⟩
  have HB1 := Lib.hid hb1
  clear hb1
  have hz : (four (sumOf s)).size ≤ 4 := Nat.le_of_eq (four_size _)
  go_wp2
  go_ret
  exact ⟨rfl, HB1.out⟩
end Go.Proofs.YtacdbfaoeioflaaDoor
