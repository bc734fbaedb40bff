/-
  CheckSums, walked: it answers true, and nothing that was there turns.
-/
import Derived.Test.YtokhdhdmbahmdaaDoorOpened
namespace Go.Proofs.YtokhdhdmbahmdaaDoor
open Go.RowKit

set_option maxRecDepth 100000 in
set_option maxHeartbeats 1000000 in
theorem sums_in (s : ByteArray) (w : World) (hT : Tab w) (hs : s.size ≤ 2048) :
    Calls Tryd.prog 3 #[.string s] w fun e w' => e = .returned (.bool true) ∧ Below w.heap.size w w' := by
  have HT0 := Lib.hid hT
  have HB0 := Lib.hid (Below.refl w.heap.size w)
  clear hT
  have hsI : (s.size : Int) ≤ 2048 := by omega
  go_enter Tryd.func3, Tryd.ntmps3
  go_wp2_with fail
  go_at_call 9
  refine (open_any s _ HT0.out (by omega)).mono ?_
  rintro e w1 ⟨rfl, hb1⟩
  have HB1 := Lib.hid (HB0.out.trans (hb1.mono HB0.out.size))
  have HT1 := Lib.hid (HT0.out.below HB1.out)
  clear hb1
  go_wp2_with fail
  go_at_call 10
  refine (ropen_any s _ (by omega)).mono ?_
  rintro e w2 ⟨rfl, hb2⟩
  have HB2 := Lib.hid (HB1.out.trans (hb2.mono HB1.out.size))
  have HT2 := Lib.hid (HT0.out.below HB2.out)
  clear hb2
  generalize openOf s = z
  go_wp2_with fail
  go_at_call 11
  refine (sum_any s _ HT2.out (by omega)).mono ?_
  rintro e w3 ⟨rfl, hb3⟩
  have HB3 := Lib.hid (HB2.out.trans (hb3.mono HB2.out.size))
  have HT3 := Lib.hid (HT0.out.below HB3.out)
  clear hb3
  go_wp2_with fail
  go_at_call 12
  refine (rsum_any s _ (by omega)).mono ?_
  rintro e w4 ⟨rfl, rfl⟩
  go_wp2_with fail
  go_at_call 13
  refine (seal_any s _ HT3.out (by omega)).mono ?_
  rintro e w4 ⟨rfl, hb4⟩
  have HB4 := Lib.hid (HB3.out.trans (hb4.mono HB3.out.size))
  have HT4 := Lib.hid (HT0.out.below HB4.out)
  clear hb4
  go_wp2_with fail
  go_at_call 14
  refine (rseal_any s _ (by omega)).mono ?_
  rintro e w5 ⟨rfl, hb5⟩
  have HB5 := Lib.hid (HB4.out.trans (hb5.mono HB4.out.size))
  have HT5 := Lib.hid (HT0.out.below HB5.out)
  clear hb5
  go_wp2_with fail
  go_at_call 13
  refine (seal_any ⟨#[]⟩ _ HT5.out (by decide)).mono ?_
  rintro e w6 ⟨rfl, hb6⟩
  have HB6 := Lib.hid (HB5.out.trans (hb6.mono HB5.out.size))
  have HT6 := Lib.hid (HT0.out.below HB6.out)
  clear hb6
  have hz : ((ByteArray.mk #[] ++ four (sumOf (ByteArray.mk #[]))).size : Int) = 4 := rfl
  go_wp2
  go_ret
  exact ⟨rfl, HB6.out⟩
set_option maxRecDepth 100000 in
set_option maxHeartbeats 1000000 in
theorem sums_out (s : ByteArray) (w : World) (hT : Tab w) (hs : 2048 < s.size) :
    Calls Tryd.prog 3 #[.string s] w fun e w' => e = .returned (.bool true) ∧ Below w.heap.size w w' := by
  have HT0 := Lib.hid hT
  have HB0 := Lib.hid (Below.refl w.heap.size w)
  clear hT
  have hsI : (2048 : Int) < (s.size : Int) := by omega
  go_enter Tryd.func3, Tryd.ntmps3
  go_wp2
  go_ret
  exact ⟨rfl, HB0.out⟩
end Go.Proofs.YtokhdhdmbahmdaaDoor
