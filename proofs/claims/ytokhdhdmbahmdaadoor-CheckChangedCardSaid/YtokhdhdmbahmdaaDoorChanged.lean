/-
  CheckChanged, walked: it answers true, and nothing that was there turns.
-/
import Derived.Test.YtokhdhdmbahmdaaDoorSealed
import Derived.Deep.RegionWith
namespace Go.Proofs.YtokhdhdmbahmdaaDoor
open Go.RowKit

theorem place (k : Int) (n : Nat) (h0 : 0 < n) (h1 : n ≤ 3000) : ∃ K : Nat, K < n ∧ (wrap64 (k.tmod (n : Int) + (n : Int))).tmod (n : Int) = (K : Int) := by
  have ha : k.tmod (n : Int) < (n : Int) := Int.tmod_lt_of_pos k (by omega)
  have hb : -(n : Int) < k.tmod (n : Int) := by
    have := Int.lt_tmod_of_pos k (b := (n : Int)) (by omega)
    omega
  have hw : wrap64 (k.tmod (n : Int) + (n : Int)) = k.tmod (n : Int) + (n : Int) := IntWalk.wrap64_in _ (by omega)
  rw [hw, Int.tmod_eq_emod_of_nonneg (by omega)]
  have h2 := Int.emod_nonneg (k.tmod (n : Int) + (n : Int)) (b := (n : Int)) (by omega)
  have h3 := Int.emod_lt_of_pos (k.tmod (n : Int) + (n : Int)) (b := (n : Int)) (by omega)
  exact ⟨((k.tmod (n : Int) + (n : Int)) % (n : Int)).toNat, by omega, by omega⟩
theorem at_byte (T : ByteArray) (K : Nat) (h : K < T.size) : T.data.toList[K]? = some T[K] := by
  have : K < T.data.toList.length := h
  rw [List.getElem?_eq_getElem this]; rfl
theorem put_list (T : ByteArray) (K : Nat) (y : Int) : (T.extract 0 K ++ oneB y ++ T.extract (K + 1) T.size).data.toList = T.data.toList.take K ++ UInt8.ofNat y.toNat :: T.data.toList.drop (K + 1) := by
  simp [ByteArray.data_append, ByteArray.data_extract, oneB, strOfNums]
  exact List.take_of_length_le (by simp)
theorem byte_sum (x : UInt8) (m : Int) (h0 : 0 ≤ m) (h1 : m ≤ 255) : (m = 0 → UInt8.ofNat (IntKind.u8.wrap ((x.toNat : Int) + m)).toNat = x) ∧ (m ≠ 0 → x ≠ UInt8.ofNat (IntKind.u8.wrap ((x.toNat : Int) + m)).toNat) := by
  have hx := u8_lt x
  rw [IntKind.wrap_u8']
  refine ⟨fun h => ?_, fun h e => ?_⟩
  · subst h
    apply UInt8.toNat_inj.1
    rw [UInt8.toNat_ofNat']
    omega
  · have := congrArg UInt8.toNat e
    rw [UInt8.toNat_ofNat'] at this
    omega
theorem put_same (T : ByteArray) (K : Nat) (h : K < T.size) (y : Int) (hy : UInt8.ofNat y.toNat = T[K]) : T.extract 0 K ++ oneB y ++ T.extract (K + 1) T.size = T := by
  apply ByteArray.ext
  apply Array.toList_inj.1
  have hl : K < T.data.toList.length := h
  rw [put_list, hy]
  have e : T[K] = T.data.toList[K] := rfl
  rw [e, ← List.drop_eq_getElem_cons hl, List.take_append_drop]
theorem conv1d (m : Int) (t : TypeId) (w : World) :
    (convert 28 9 (.slice (some ⟨w.heap.size, 0, none⟩) 1 1)).run Tryd.prog (w.alloc (.cells #[.int .u8 m] t)).drew = .ok (.string (oneB m)) (w.alloc (.cells #[.int .u8 m] t)).drew :=
  run_convert_bytes_arg _ 28 5 Tryd.underlying28 Tryd.underlying5 w.heap.size 0 1 1 [m] rfl (fun i hi => by
    obtain rfl : i = 0 := by omega
    simp) 9 Tryd.underlying9

set_option maxRecDepth 100000 in
set_option maxHeartbeats 1000000 in
theorem changed_same (s : ByteArray) (k : Int) (w : World) (hT : Tab w) (hs : s.size ≤ 2048) :
    Calls Tryd.prog 5 #[.string s, .int .i64 k, .int .u8 0] w fun e w' => e = .returned (.bool true) ∧ Below w.heap.size w w' := by
  have HT0 := Lib.hid hT
  have HB0 := Lib.hid (Below.refl w.heap.size w)
  clear hT
  have hsI : (s.size : Int) ≤ 2048 := by omega
  obtain ⟨m, hm⟩ : ∃ m : Int, m = 0 := ⟨0, rfl⟩
  have hm0 : 0 ≤ m := by omega
  have hm1 : m ≤ 255 := by omega
  rw [← hm]
  have HM := Lib.hid hm
  clear hm
  go_enter Tryd.func5, Tryd.ntmps5
  go_wp2_with fail
  go_at_call 13
  refine (seal_any s _ HT0.out (by omega)).mono ?_
  rintro e w1 ⟨rfl, hb1⟩
  have HB1 := Lib.hid (HB0.out.trans (hb1.mono HB0.out.size))
  have HT1 := Lib.hid (HT0.out.below HB1.out)
  clear hb1
  obtain ⟨T, hT⟩ : ∃ T, s ++ four (sumOf s) = T := ⟨_, rfl⟩
  have HU := Lib.hid hT
  have HZ := Lib.hid (show T.size = s.size + 4 by rw [← hT, ByteArray.size_append, four_size])
  have hTI : T.size ≤ 3000 := by have := HZ.out; omega
  rw [hT]
  clear hT
  go_wp2_with fail
  go_at_call 14
  refine (rseal_any s _ (by omega)).mono ?_
  rintro e w2 ⟨rfl, hb2⟩
  have HB2 := Lib.hid (HB1.out.trans (hb2.mono HB1.out.size))
  have HT2 := Lib.hid (HT0.out.below HB2.out)
  clear hb2
  rw [HU.out]
  obtain ⟨K, hKlt, hK⟩ := place k T.size (by have := HZ.out; omega) hTI
  have hT0 : (T.size : Int) ≠ 0 := by have := HZ.out; omega
  have hKI : (K : Int) < (T.size : Int) := by omega
  go_wp2_with fail
  have hby := byte_sum T[K] m hm0 hm1
  generalize hy : IntKind.u8.wrap ((T[K].toNat : Int) + m) = y at hby
  have HO := Lib.hid (show openOf (T.extract 0 K ++ oneB y ++ T.extract (K + 1) T.size) = (s, true) by rw [put_same T K hKlt y (hby.1 HM.out), ← HU.out]; exact openOf_yes s)
  have h1 : (oneB y).size ≤ 1 := Nat.le_of_eq (oneB_size y)
  have HR := Lib.hid (show (T.extract 0 K ++ oneB y ++ T.extract (K + 1) T.size).size ≤ 1000000000000 by rw [ByteArray.size_append, ByteArray.size_append, ByteArray.size_extract, ByteArray.size_extract]; omega)
  have hcv := conv1d y 5 w2
  have HBe := Lib.hid ((HB2.out.alloc HB2.out.size (.cells #[.int .u8 y] 5)).drew)
  have HTd := Lib.hid (show Tab w2.drew from HT2.out.below (Below.refl _ _).drew)
  have HTe := Lib.hid (show Tab (w2.alloc (.cells #[.int .u8 y] 5)).drew from HT2.out.below (((Below.refl _ _).alloc (Nat.le_refl _) _).drew))
  have hK0 : (0 : Int) ≤ (K : Int) := by omega
  have hK1 : (K : Int) ≤ (T.size : Int) := by omega
  have hK2 : (K : Int) + 1 ≤ (T.size : Int) := by omega
  have hK3 : (0 : Int) ≤ (K : Int) + 1 := by omega
  have hK4 : ((K : Int) + 1).toNat = K + 1 := by omega
  have hKw : IntKind.i64.wrap ((K : Int) + 1) = (K : Int) + 1 := IntWalk.i64_in _ (by omega)
  clear hby
  go_region_with (go_at_call 9; ((with_reducible refine (open_any _ _ HTe.out HR.out).mono ?_); rintro e w3 ⟨rfl, hb3⟩; rw [HO.out]; have HB3 := Lib.hid (HBe.out.trans (hb3.mono HBe.out.size)); clear hb3))
  clear hcv hK hKw hK4 hy
  have hmb : (m == 0) = true := by simpa using HM.out
  go_wp2
  go_ret
  exact ⟨rfl, HB3.out⟩
set_option maxRecDepth 100000 in
set_option maxHeartbeats 1000000 in
theorem changed_other (s : ByteArray) (k m : Int) (w : World) (hT : Tab w) (hs : s.size ≤ 2048) (hm0 : 0 ≤ m) (hm1 : m ≤ 255) (hm : m ≠ 0) :
    Calls Tryd.prog 5 #[.string s, .int .i64 k, .int .u8 m] w fun e w' => e = .returned (.bool true) ∧ Below w.heap.size w w' := by
  have HT0 := Lib.hid hT
  have HB0 := Lib.hid (Below.refl w.heap.size w)
  clear hT
  have hsI : (s.size : Int) ≤ 2048 := by omega
  have HM := Lib.hid hm
  clear hm
  go_enter Tryd.func5, Tryd.ntmps5
  go_wp2_with fail
  go_at_call 13
  refine (seal_any s _ HT0.out (by omega)).mono ?_
  rintro e w1 ⟨rfl, hb1⟩
  have HB1 := Lib.hid (HB0.out.trans (hb1.mono HB0.out.size))
  have HT1 := Lib.hid (HT0.out.below HB1.out)
  clear hb1
  obtain ⟨T, hT⟩ : ∃ T, s ++ four (sumOf s) = T := ⟨_, rfl⟩
  have HU := Lib.hid hT
  have HZ := Lib.hid (show T.size = s.size + 4 by rw [← hT, ByteArray.size_append, four_size])
  have hTI : T.size ≤ 3000 := by have := HZ.out; omega
  rw [hT]
  clear hT
  go_wp2_with fail
  go_at_call 14
  refine (rseal_any s _ (by omega)).mono ?_
  rintro e w2 ⟨rfl, hb2⟩
  have HB2 := Lib.hid (HB1.out.trans (hb2.mono HB1.out.size))
  have HT2 := Lib.hid (HT0.out.below HB2.out)
  clear hb2
  rw [HU.out]
  obtain ⟨K, hKlt, hK⟩ := place k T.size (by have := HZ.out; omega) hTI
  have hT0 : (T.size : Int) ≠ 0 := by have := HZ.out; omega
  have hKI : (K : Int) < (T.size : Int) := by omega
  go_wp2_with fail
  have hby := byte_sum T[K] m hm0 hm1
  generalize hy : IntKind.u8.wrap ((T[K].toNat : Int) + m) = y at hby
  have HO := Lib.hid (show openOf (T.extract 0 K ++ oneB y ++ T.extract (K + 1) T.size) = (⟨#[]⟩, false) from openOf_other s K T[K] (UInt8.ofNat y.toNat) _ (by rw [HU.out]; exact hKlt) (by rw [HU.out]; exact at_byte T K hKlt) (hby.2 HM.out) (by rw [HU.out]; exact put_list T K y))
  have h1 : (oneB y).size ≤ 1 := Nat.le_of_eq (oneB_size y)
  have HR := Lib.hid (show (T.extract 0 K ++ oneB y ++ T.extract (K + 1) T.size).size ≤ 1000000000000 by rw [ByteArray.size_append, ByteArray.size_append, ByteArray.size_extract, ByteArray.size_extract]; omega)
  have hcv := conv1d y 5 w2
  have HBe := Lib.hid ((HB2.out.alloc HB2.out.size (.cells #[.int .u8 y] 5)).drew)
  have HTd := Lib.hid (show Tab w2.drew from HT2.out.below (Below.refl _ _).drew)
  have HTe := Lib.hid (show Tab (w2.alloc (.cells #[.int .u8 y] 5)).drew from HT2.out.below (((Below.refl _ _).alloc (Nat.le_refl _) _).drew))
  have hK0 : (0 : Int) ≤ (K : Int) := by omega
  have hK1 : (K : Int) ≤ (T.size : Int) := by omega
  have hK2 : (K : Int) + 1 ≤ (T.size : Int) := by omega
  have hK3 : (0 : Int) ≤ (K : Int) + 1 := by omega
  have hK4 : ((K : Int) + 1).toNat = K + 1 := by omega
  have hKw : IntKind.i64.wrap ((K : Int) + 1) = (K : Int) + 1 := IntWalk.i64_in _ (by omega)
  clear hby
  go_region_with (go_at_call 9; ((with_reducible refine (open_any _ _ HTe.out HR.out).mono ?_); rintro e w3 ⟨rfl, hb3⟩; rw [HO.out]; have HB3 := Lib.hid (HBe.out.trans (hb3.mono HBe.out.size)); clear hb3))
  clear hcv hK hKw hK4 hy
  have hmb : (m == 0) = false := by simpa using HM.out
  go_wp2
  go_ret
  exact ⟨rfl, HB3.out⟩
set_option maxRecDepth 100000 in
set_option maxHeartbeats 1000000 in
theorem changed_out (s : ByteArray) (k m : Int) (w : World) (hT : Tab w) (hs : 2048 < s.size) :
    Calls Tryd.prog 5 #[.string s, .int .i64 k, .int .u8 m] w fun e w' => e = .returned (.bool true) ∧ Below w.heap.size w w' := by
  have HT0 := Lib.hid hT
  have HB0 := Lib.hid (Below.refl w.heap.size w)
  clear hT
  have hsI : (2048 : Int) < (s.size : Int) := by omega
  go_enter Tryd.func5, Tryd.ntmps5
  go_wp2
  go_ret
  exact ⟨rfl, HB0.out⟩
end Go.Proofs.YtokhdhdmbahmdaaDoor
