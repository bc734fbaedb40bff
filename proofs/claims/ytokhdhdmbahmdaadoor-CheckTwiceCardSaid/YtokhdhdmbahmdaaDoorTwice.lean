/-
  CheckTwice, walked: it answers true, and nothing that was there turns.
-/
import Derived.Test.YtokhdhdmbahmdaaDoorOpened
namespace Go.Proofs.YtokhdhdmbahmdaaDoor
open Go.RowKit

theorem first_part (a b c : ByteArray) : (a ++ b ++ c).extract 0 a.size = a := by
  rw [ByteArray.append_assoc]; exact app_left a (b ++ c)

set_option maxRecDepth 100000 in
set_option maxHeartbeats 1000000 in
theorem twice_in (s : ByteArray) (w : World) (hT : Tab w) (hs : s.size ≤ 2048) :
    Calls Tryd.prog 7 #[.string s] w fun e w' => e = .returned (.bool true) ∧ Below w.heap.size w w' := by
  have HT0 := Lib.hid hT
  have HB0 := Lib.hid (Below.refl w.heap.size w)
  clear hT
  have hsI : (s.size : Int) ≤ 2048 := by omega
  go_enter Tryd.func7, Tryd.ntmps7
  go_wp2_with fail
  go_at_call 13
  refine (seal_any s _ HT0.out (by omega)).mono ?_
  rintro e w1 ⟨rfl, hb1⟩
  have HB1 := Lib.hid (HB0.out.trans (hb1.mono HB0.out.size))
  have HT1 := Lib.hid (HT0.out.below HB1.out)
  clear hb1
  obtain ⟨u, hu⟩ : ∃ u, s ++ four (sumOf s) = u := ⟨_, rfl⟩
  have HU := Lib.hid hu
  have hus : u.size = s.size + 4 := by rw [← hu, ByteArray.size_append, four_size]
  rw [hu]
  clear hu
  go_wp2_with fail
  go_at_call 13
  refine (seal_any u _ HT1.out (by omega)).mono ?_
  rintro e w2 ⟨rfl, hb2⟩
  have HB2 := Lib.hid (HB1.out.trans (hb2.mono HB1.out.size))
  have HT2 := Lib.hid (HT0.out.below HB2.out)
  clear hb2
  obtain ⟨v, hv⟩ : ∃ v, u ++ four (sumOf u) = v := ⟨_, rfl⟩
  have HV := Lib.hid hv
  have hvs : v.size = s.size + 8 := by rw [← hv, ByteArray.size_append, four_size]; omega
  rw [hv]
  clear hv
  have HUS := Lib.hid hus
  have HVS := Lib.hid hvs
  have huI : u.size ≤ 3000 := by omega
  have hvI : v.size ≤ 3000 := by omega
  clear hus hvs
  go_wp2_with fail
  go_at_call 9
  refine (open_any v _ HT2.out (by omega)).mono ?_
  rintro e w3 ⟨rfl, hb3⟩
  have HB3 := Lib.hid (HB2.out.trans (hb3.mono HB2.out.size))
  have HT3 := Lib.hid (HT0.out.below HB3.out)
  clear hb3
  rw [show openOf v = (u, true) by rw [← HV.out]; exact openOf_yes u]
  go_wp2_with fail
  go_at_call 9
  refine (open_any u _ HT3.out (by omega)).mono ?_
  rintro e w4 ⟨rfl, hb4⟩
  have HB4 := Lib.hid (HB3.out.trans (hb4.mono HB3.out.size))
  have HT4 := Lib.hid (HT0.out.below HB4.out)
  clear hb4
  rw [show openOf u = (s, true) by rw [← HU.out]; exact openOf_yes s]
  go_wp2_with fail
  go_at_call 14
  refine (rseal_any s _ (by omega)).mono ?_
  rintro e w5 ⟨rfl, hb5⟩
  have HB5 := Lib.hid (HB4.out.trans (hb5.mono HB4.out.size))
  have HT5 := Lib.hid (HT0.out.below HB5.out)
  clear hb5
  rw [HU.out]
  have hl : (v.size : Int) = (s.size : Int) + 8 := by have := HVS.out; omega
  have hls : (s.size : Int) ≤ (v.size : Int) := by omega
  have hext : v.extract 0 s.size = s := by rw [← HV.out, ← HU.out]; exact first_part s _ _
  go_wp2
  go_ret
  exact ⟨rfl, HB5.out⟩
set_option maxRecDepth 100000 in
set_option maxHeartbeats 1000000 in
theorem twice_out (s : ByteArray) (w : World) (hT : Tab w) (hs : 2048 < s.size) :
    Calls Tryd.prog 7 #[.string s] w fun e w' => e = .returned (.bool true) ∧ Below w.heap.size w w' := by
  have HT0 := Lib.hid hT
  have HB0 := Lib.hid (Below.refl w.heap.size w)
  clear hT
  have hsI : (2048 : Int) < (s.size : Int) := by omega
  go_enter Tryd.func7, Tryd.ntmps7
  go_wp2
  go_ret
  exact ⟨rfl, HB0.out⟩
end Go.Proofs.YtokhdhdmbahmdaaDoor
