/-
  CheckApart, walked: it answers true, and nothing that was there turns.
-/
import Derived.Test.YtokhdhdmbahmdaaDoorOpened
namespace Go.Proofs.YtokhdhdmbahmdaaDoor
open Go.RowKit

set_option maxRecDepth 100000 in
set_option maxHeartbeats 1000000 in
theorem apart_eq (a : ByteArray) (w : World) (hT : Tab w) (ha : a.size ≤ 2048) :
    Calls Tryd.prog 6 #[.string a, .string a] w fun e w' => e = .returned (.bool true) ∧ Below w.heap.size w w' := by
  have HT0 := Lib.hid hT
  have HB0 := Lib.hid (Below.refl w.heap.size w)
  clear hT
  have haI : (a.size : Int) ≤ 2048 := by omega
  go_enter Tryd.func6, Tryd.ntmps6
  go_wp2_with fail
  go_at_call 13
  refine (seal_any a _ HT0.out (by omega)).mono ?_
  rintro e w1 ⟨rfl, hb1⟩
  have HB1 := Lib.hid (HB0.out.trans (hb1.mono HB0.out.size))
  have HT1 := Lib.hid (HT0.out.below HB1.out)
  clear hb1
  go_wp2_with fail
  go_at_call 13
  refine (seal_any a _ HT1.out (by omega)).mono ?_
  rintro e w2 ⟨rfl, hb2⟩
  have HB2 := Lib.hid (HB1.out.trans (hb2.mono HB1.out.size))
  have HT2 := Lib.hid (HT0.out.below HB2.out)
  clear hb2
  go_wp2_with fail
  go_at_call 14
  refine (rseal_any a _ (by omega)).mono ?_
  rintro e w3 ⟨rfl, hb3⟩
  have HB3 := Lib.hid (HB2.out.trans (hb3.mono HB2.out.size))
  have HT3 := Lib.hid (HT0.out.below HB3.out)
  clear hb3
  generalize a ++ four (sumOf a) = A
  go_wp2
  go_ret
  exact ⟨rfl, HB3.out⟩
set_option maxRecDepth 100000 in
set_option maxHeartbeats 1000000 in
theorem apart_ne (a b : ByteArray) (w : World) (hT : Tab w) (ha : a.size ≤ 2048) (hb : b.size ≤ 2048) (hne : a ≠ b) :
    Calls Tryd.prog 6 #[.string a, .string b] w fun e w' => e = .returned (.bool true) ∧ Below w.heap.size w w' := by
  have HT0 := Lib.hid hT
  have HB0 := Lib.hid (Below.refl w.heap.size w)
  clear hT
  have haI : (a.size : Int) ≤ 2048 := by omega
  have hbI : (b.size : Int) ≤ 2048 := by omega
  have HN := Lib.hid hne
  have hab := str_ne hne
  clear hne
  go_enter Tryd.func6, Tryd.ntmps6
  go_wp2_with fail
  go_at_call 13
  refine (seal_any a _ HT0.out (by omega)).mono ?_
  rintro e w1 ⟨rfl, hb1⟩
  have HB1 := Lib.hid (HB0.out.trans (hb1.mono HB0.out.size))
  have HT1 := Lib.hid (HT0.out.below HB1.out)
  clear hb1
  obtain ⟨A, hA⟩ : ∃ A, a ++ four (sumOf a) = A := ⟨_, rfl⟩
  have HA := Lib.hid hA
  rw [hA]
  clear hA
  go_wp2_with fail
  go_at_call 13
  refine (seal_any b _ HT1.out (by omega)).mono ?_
  rintro e w2 ⟨rfl, hb2⟩
  have HB2 := Lib.hid (HB1.out.trans (hb2.mono HB1.out.size))
  have HT2 := Lib.hid (HT0.out.below HB2.out)
  clear hb2
  obtain ⟨B, hB⟩ : ∃ B, b ++ four (sumOf b) = B := ⟨_, rfl⟩
  have hAB := str_ne (fun e : A = B => HN.out (app_inj (by rw [four_size, four_size]) (HA.out.trans (e.trans hB.symm))).1)
  rw [hB]
  clear hB
  go_wp2_with fail
  go_at_call 14
  refine (rseal_any a _ (by omega)).mono ?_
  rintro e w3 ⟨rfl, hb3⟩
  have HB3 := Lib.hid (HB2.out.trans (hb3.mono HB2.out.size))
  have HT3 := Lib.hid (HT0.out.below HB3.out)
  clear hb3
  rw [HA.out]
  go_wp2
  go_ret
  exact ⟨rfl, HB3.out⟩
set_option maxRecDepth 100000 in
set_option maxHeartbeats 1000000 in
theorem apart_far (a b : ByteArray) (w : World) (hT : Tab w) (ha : 2048 < a.size) :
    Calls Tryd.prog 6 #[.string a, .string b] w fun e w' => e = .returned (.bool true) ∧ Below w.heap.size w w' := by
  have HT0 := Lib.hid hT
  have HB0 := Lib.hid (Below.refl w.heap.size w)
  clear hT
  have haI : (2048 : Int) < (a.size : Int) := by omega
  go_enter Tryd.func6, Tryd.ntmps6
  go_wp2
  go_ret
  exact ⟨rfl, HB0.out⟩
set_option maxRecDepth 100000 in
set_option maxHeartbeats 1000000 in
theorem apart_off (a b : ByteArray) (w : World) (hT : Tab w) (ha : a.size ≤ 2048) (hb : 2048 < b.size) :
    Calls Tryd.prog 6 #[.string a, .string b] w fun e w' => e = .returned (.bool true) ∧ Below w.heap.size w w' := by
  have HT0 := Lib.hid hT
  have HB0 := Lib.hid (Below.refl w.heap.size w)
  clear hT
  have haI : (a.size : Int) ≤ 2048 := by omega
  have hbI : (2048 : Int) < (b.size : Int) := by omega
  go_enter Tryd.func6, Tryd.ntmps6
  go_wp2
  go_ret
  exact ⟨rfl, HB0.out⟩
end Go.Proofs.YtokhdhdmbahmdaaDoor
