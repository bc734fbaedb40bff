/-
  CheckShort, walked: it answers true, and nothing that was there turns.
-/
import Derived.Test.YtokhdhdmbahmdaaDoorOpened
namespace Go.Proofs.YtokhdhdmbahmdaaDoor
open Go.RowKit

theorem short_no (s : ByteArray) (h4 : s.size ≤ 4) (he : s ≠ ⟨#[]⟩ ++ four (sumOf ⟨#[]⟩)) : openOf s = (⟨#[]⟩, false) := by
  apply openOf_no
  intro t ht
  have hz := congrArg ByteArray.size ht
  rw [ByteArray.size_append, four_size] at hz
  have h0 : t.data.size = 0 := by have : t.data.size = t.size := rfl; omega
  have e : t = ⟨#[]⟩ := ByteArray.ext (Array.eq_empty_of_size_eq_zero h0)
  rw [e] at ht
  exact he ht

set_option maxRecDepth 100000 in
set_option maxHeartbeats 1000000 in
theorem short_all_eq (S : ByteArray) (w : World) (hT : Tab w) (h4 : S.size ≤ 4) (he : S = ⟨#[]⟩ ++ four (sumOf ⟨#[]⟩)) :
    Calls Tryd.prog 8 #[.string S] w fun e w' => e = .returned (.bool true) ∧ Below w.heap.size w w' := by
  have HT0 := Lib.hid hT
  have HB0 := Lib.hid (Below.refl w.heap.size w)
  clear hT
  have hSI : (S.size : Int) ≤ 4 := by omega
  obtain ⟨Q, hQ⟩ : ∃ Q, ByteArray.mk #[] ++ four (sumOf (ByteArray.mk #[])) = Q := ⟨_, rfl⟩
  have HQ := Lib.hid hQ
  have HO := Lib.hid (show openOf S = (⟨#[]⟩, true) by rw [he]; exact openOf_yes _)
  have hx := str_eq (he.trans hQ)
  clear hQ he
  go_enter Tryd.func8, Tryd.ntmps8
  go_wp2_with fail
  go_at_call 9
  refine (open_any S _ HT0.out (by omega)).mono ?_
  rintro e w1 ⟨rfl, hb1⟩
  have HB1 := Lib.hid (HB0.out.trans (hb1.mono HB0.out.size))
  have HT1 := Lib.hid (HT0.out.below HB1.out)
  clear hb1
  rw [HO.out]
  go_wp2_with fail
  go_at_call 14
  refine (rseal_any ⟨#[]⟩ _ (by decide)).mono ?_
  rintro e w2 ⟨rfl, hb2⟩
  have HB2 := Lib.hid (HB1.out.trans (hb2.mono HB1.out.size))
  have HT2 := Lib.hid (HT0.out.below HB2.out)
  clear hb2
  rw [HQ.out]
  go_wp2_with fail
  go_at_call 13
  refine (seal_any S _ HT2.out (by omega)).mono ?_
  rintro e w3 ⟨rfl, hb3⟩
  have HB3 := Lib.hid (HB2.out.trans (hb3.mono HB2.out.size))
  have HT3 := Lib.hid (HT0.out.below HB3.out)
  clear hb3
  have hz : ((four (sumOf S)).size : Int) = 4 := rfl
  go_wp2
  go_ret
  exact ⟨rfl, HB3.out⟩
set_option maxRecDepth 100000 in
set_option maxHeartbeats 1000000 in
theorem short_all_ne (S : ByteArray) (w : World) (hT : Tab w) (h4 : S.size ≤ 4) (he : S ≠ ⟨#[]⟩ ++ four (sumOf ⟨#[]⟩)) :
    Calls Tryd.prog 8 #[.string S] w fun e w' => e = .returned (.bool true) ∧ Below w.heap.size w w' := by
  have HT0 := Lib.hid hT
  have HB0 := Lib.hid (Below.refl w.heap.size w)
  clear hT
  have hSI : (S.size : Int) ≤ 4 := by omega
  obtain ⟨Q, hQ⟩ : ∃ Q, ByteArray.mk #[] ++ four (sumOf (ByteArray.mk #[])) = Q := ⟨_, rfl⟩
  have HQ := Lib.hid hQ
  have HO := Lib.hid (short_no S h4 he)
  have hx := str_ne (fun e : S = Q => he (e.trans hQ.symm))
  clear hQ he
  go_enter Tryd.func8, Tryd.ntmps8
  go_wp2_with fail
  go_at_call 9
  refine (open_any S _ HT0.out (by omega)).mono ?_
  rintro e w1 ⟨rfl, hb1⟩
  have HB1 := Lib.hid (HB0.out.trans (hb1.mono HB0.out.size))
  have HT1 := Lib.hid (HT0.out.below HB1.out)
  clear hb1
  rw [HO.out]
  go_wp2_with fail
  go_at_call 14
  refine (rseal_any ⟨#[]⟩ _ (by decide)).mono ?_
  rintro e w2 ⟨rfl, hb2⟩
  have HB2 := Lib.hid (HB1.out.trans (hb2.mono HB1.out.size))
  have HT2 := Lib.hid (HT0.out.below HB2.out)
  clear hb2
  rw [HQ.out]
  go_wp2_with fail
  go_at_call 13
  refine (seal_any S _ HT2.out (by omega)).mono ?_
  rintro e w3 ⟨rfl, hb3⟩
  have HB3 := Lib.hid (HB2.out.trans (hb3.mono HB2.out.size))
  have HT3 := Lib.hid (HT0.out.below HB3.out)
  clear hb3
  have hz : ((four (sumOf S)).size : Int) = 4 := rfl
  go_wp2
  go_ret
  exact ⟨rfl, HB3.out⟩
set_option maxRecDepth 100000 in
set_option maxHeartbeats 1000000 in
theorem short_cut_eq (s S : ByteArray) (w : World) (hT : Tab w) (hs : 4 < s.size) (hS : s.extract 0 4 = S) (h4 : S.size ≤ 4) (he : S = ⟨#[]⟩ ++ four (sumOf ⟨#[]⟩)) :
    Calls Tryd.prog 8 #[.string s] w fun e w' => e = .returned (.bool true) ∧ Below w.heap.size w w' := by
  have HT0 := Lib.hid hT
  have HB0 := Lib.hid (Below.refl w.heap.size w)
  clear hT
  have hsI : (4 : Int) < (s.size : Int) := by omega
  have HS := Lib.hid hS
  clear hS
  have hSI : (S.size : Int) ≤ 4 := by omega
  obtain ⟨Q, hQ⟩ : ∃ Q, ByteArray.mk #[] ++ four (sumOf (ByteArray.mk #[])) = Q := ⟨_, rfl⟩
  have HQ := Lib.hid hQ
  have HO := Lib.hid (show openOf S = (⟨#[]⟩, true) by rw [he]; exact openOf_yes _)
  have hx := str_eq (he.trans hQ)
  clear hQ he
  go_enter Tryd.func8, Tryd.ntmps8
  go_wp2_with fail
  rw [HS.out]
  go_at_call 9
  refine (open_any S _ HT0.out (by omega)).mono ?_
  rintro e w1 ⟨rfl, hb1⟩
  have HB1 := Lib.hid (HB0.out.trans (hb1.mono HB0.out.size))
  have HT1 := Lib.hid (HT0.out.below HB1.out)
  clear hb1
  rw [HO.out]
  go_wp2_with fail
  go_at_call 14
  refine (rseal_any ⟨#[]⟩ _ (by decide)).mono ?_
  rintro e w2 ⟨rfl, hb2⟩
  have HB2 := Lib.hid (HB1.out.trans (hb2.mono HB1.out.size))
  have HT2 := Lib.hid (HT0.out.below HB2.out)
  clear hb2
  rw [HQ.out]
  go_wp2_with fail
  go_at_call 13
  refine (seal_any S _ HT2.out (by omega)).mono ?_
  rintro e w3 ⟨rfl, hb3⟩
  have HB3 := Lib.hid (HB2.out.trans (hb3.mono HB2.out.size))
  have HT3 := Lib.hid (HT0.out.below HB3.out)
  clear hb3
  have hz : ((four (sumOf S)).size : Int) = 4 := rfl
  go_wp2
  go_ret
  exact ⟨rfl, HB3.out⟩
set_option maxRecDepth 100000 in
set_option maxHeartbeats 1000000 in
theorem short_cut_ne (s S : ByteArray) (w : World) (hT : Tab w) (hs : 4 < s.size) (hS : s.extract 0 4 = S) (h4 : S.size ≤ 4) (he : S ≠ ⟨#[]⟩ ++ four (sumOf ⟨#[]⟩)) :
    Calls Tryd.prog 8 #[.string s] w fun e w' => e = .returned (.bool true) ∧ Below w.heap.size w w' := by
  have HT0 := Lib.hid hT
  have HB0 := Lib.hid (Below.refl w.heap.size w)
  clear hT
  have hsI : (4 : Int) < (s.size : Int) := by omega
  have HS := Lib.hid hS
  clear hS
  have hSI : (S.size : Int) ≤ 4 := by omega
  obtain ⟨Q, hQ⟩ : ∃ Q, ByteArray.mk #[] ++ four (sumOf (ByteArray.mk #[])) = Q := ⟨_, rfl⟩
  have HQ := Lib.hid hQ
  have HO := Lib.hid (short_no S h4 he)
  have hx := str_ne (fun e : S = Q => he (e.trans hQ.symm))
  clear hQ he
  go_enter Tryd.func8, Tryd.ntmps8
  go_wp2_with fail
  rw [HS.out]
  go_at_call 9
  refine (open_any S _ HT0.out (by omega)).mono ?_
  rintro e w1 ⟨rfl, hb1⟩
  have HB1 := Lib.hid (HB0.out.trans (hb1.mono HB0.out.size))
  have HT1 := Lib.hid (HT0.out.below HB1.out)
  clear hb1
  rw [HO.out]
  go_wp2_with fail
  go_at_call 14
  refine (rseal_any ⟨#[]⟩ _ (by decide)).mono ?_
  rintro e w2 ⟨rfl, hb2⟩
  have HB2 := Lib.hid (HB1.out.trans (hb2.mono HB1.out.size))
  have HT2 := Lib.hid (HT0.out.below HB2.out)
  clear hb2
  rw [HQ.out]
  go_wp2_with fail
  go_at_call 13
  refine (seal_any S _ HT2.out (by omega)).mono ?_
  rintro e w3 ⟨rfl, hb3⟩
  have HB3 := Lib.hid (HB2.out.trans (hb3.mono HB2.out.size))
  have HT3 := Lib.hid (HT0.out.below HB3.out)
  clear hb3
  have hz : ((four (sumOf S)).size : Int) = 4 := rfl
  go_wp2
  go_ret
  exact ⟨rfl, HB3.out⟩
end Go.Proofs.YtokhdhdmbahmdaaDoor
