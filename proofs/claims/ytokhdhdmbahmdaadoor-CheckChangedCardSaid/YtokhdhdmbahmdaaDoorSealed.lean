/-
  CheckBack, walked: it answers true, and nothing that was there turns.
-/
import Derived.Test.YtokhdhdmbahmdaaDoorOpened
namespace Go.Proofs.YtokhdhdmbahmdaaDoor
open Go.RowKit

/-- A text of one byte. -/
def oneB (m : Int) : ByteArray := strOfNums [m]
theorem oneB_size (m : Int) : (oneB m).size = 1 := rfl
theorem conv1 (m : Int) (t : TypeId) (w : World) :
    (convert 28 9 (.slice (some ⟨w.heap.size, 0, none⟩) 1 1)).run Tryd.prog (w.alloc (.cells #[.int .u8 m] t)) = .ok (.string (oneB m)) (w.alloc (.cells #[.int .u8 m] t)) :=
  run_convert_bytes_arg _ 28 5 Tryd.underlying28 Tryd.underlying5 w.heap.size 0 1 1 [m] rfl (fun i hi => by
    obtain rfl : i = 0 := by omega
    simp) 9 Tryd.underlying9

set_option maxRecDepth 100000 in
set_option maxHeartbeats 1000000 in
theorem back_in (s : ByteArray) (m : Int) (w : World) (hT : Tab w) (hs : s.size ≤ 2048) :
    Calls Tryd.prog 4 #[.string s, .int .u8 m] w fun e w' => e = .returned (.bool true) ∧ Below w.heap.size w w' := by
  have HT0 := Lib.hid hT
  have HB0 := Lib.hid (Below.refl w.heap.size w)
  clear hT
  have hsI : (s.size : Int) ≤ 2048 := by omega
  go_enter Tryd.func4, Tryd.ntmps4
  go_wp2_with fail
  go_at_call 13
  refine (seal_any s _ HT0.out (by omega)).mono ?_
  rintro e w1 ⟨rfl, hb1⟩
  have HB1 := Lib.hid (HB0.out.trans (hb1.mono HB0.out.size))
  have HT1 := Lib.hid (HT0.out.below HB1.out)
  clear hb1
  obtain ⟨T, hT⟩ : ∃ T, s ++ four (sumOf s) = T := ⟨_, rfl⟩
  have HU := Lib.hid hT
  have HZ := Lib.hid (show T.size = s.size + 4 by rw [← hT, ByteArray.size_append, four_size])
  have hTI : T.size ≤ 3000 := by have := HZ.out; omega
  rw [hT]
  clear hT
  go_wp2_with fail
  go_at_call 9
  refine (open_any T _ HT1.out (by omega)).mono ?_
  rintro e w2 ⟨rfl, hb2⟩
  have HB2 := Lib.hid (HB1.out.trans (hb2.mono HB1.out.size))
  have HT2 := Lib.hid (HT0.out.below HB2.out)
  clear hb2
  rw [show openOf T = (s, true) by rw [← HU.out]; exact openOf_yes s]
  have hcv := conv1 m 5 w2
  have h1 : (oneB m).size ≤ 1 := Nat.le_of_eq (oneB_size m)
  go_wp2_with fail
  have HB3 := Lib.hid (HB2.out.alloc HB2.out.size (.cells #[.int .u8 m] 5))
  have HT3 := Lib.hid (HT0.out.below HB3.out)
  obtain ⟨V, hV⟩ : ∃ V, T ++ oneB m = V := ⟨_, rfl⟩
  have HV := Lib.hid hV
  rw [hV]
  have hVI : V.size ≤ 4000 := by rw [← hV, ByteArray.size_append]; omega
  clear hV hcv
  go_at_call 9
  refine (open_any V _ HT3.out (by omega)).mono ?_
  rintro e w4 ⟨rfl, hb4⟩
  have HB4 := Lib.hid (HB3.out.trans (hb4.mono HB3.out.size))
  have HT4 := Lib.hid (HT0.out.below HB4.out)
  clear hb4
  have hcv := conv1 m 5 w4
  go_wp2_with fail
  rw [HV.out]
  have HB5 := Lib.hid (HB4.out.alloc HB4.out.size (.cells #[.int .u8 m] 5))
  have HT5 := Lib.hid (HT0.out.below HB5.out)
  clear hcv
  go_at_call 10
  refine (ropen_any V _ (by omega)).mono ?_
  rintro e w6 ⟨rfl, hb6⟩
  have HB6 := Lib.hid (HB5.out.trans (hb6.mono HB5.out.size))
  have HT6 := Lib.hid (HT0.out.below HB6.out)
  clear hb6
  generalize openOf V = z
  have hl : (T.size : Int) = (s.size : Int) + 4 := by have := HZ.out; omega
  go_wp2
  go_ret
  exact ⟨rfl, HB6.out⟩
set_option maxRecDepth 100000 in
set_option maxHeartbeats 1000000 in
theorem back_out (s : ByteArray) (m : Int) (w : World) (hT : Tab w) (hs : 2048 < s.size) :
    Calls Tryd.prog 4 #[.string s, .int .u8 m] w fun e w' => e = .returned (.bool true) ∧ Below w.heap.size w w' := by
  have HT0 := Lib.hid hT
  have HB0 := Lib.hid (Below.refl w.heap.size w)
  clear hT
  have hsI : (2048 : Int) < (s.size : Int) := by omega
  go_enter Tryd.func4, Tryd.ntmps4
  go_wp2
  go_ret
  exact ⟨rfl, HB0.out⟩
end Go.Proofs.YtokhdhdmbahmdaaDoor
