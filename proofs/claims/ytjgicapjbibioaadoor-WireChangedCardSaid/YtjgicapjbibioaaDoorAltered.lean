/-
  WireChanged, walked: it answers true, and nothing that was there turns.
-/
import Derived.Test.YtjgicapjbibioaaDoorWireAny
import Derived.Test.YtjgicapjbibioaaDoorIs
import Derived.Deep.RegionWith
import Derived.Deep.DeepCutAuto
namespace Go.Proofs.YtjgicapjbibioaaDoor
open Go.RowKit Go.Lib Go.PlainAid

/-- A text of one byte. -/
def oneB (m : Int) : ByteArray := strOfNums [m]
theorem oneB_size (m : Int) : (oneB m).size = 1 := rfl
theorem place (k : Int) (n : Nat) (h0 : 0 < n) (h1 : n ≤ 3000) : ∃ K : Nat, K < n ∧ (wrap64 (k.tmod (n : Int) + (n : Int))).tmod (n : Int) = (K : Int) := by
  have ha : k.tmod (n : Int) < (n : Int) := Int.tmod_lt_of_pos k (by omega)
  have hb : -(n : Int) < k.tmod (n : Int) := by
    have := Int.lt_tmod_of_pos k (b := (n : Int)) (by omega)
    omega
  have hw : wrap64 (k.tmod (n : Int) + (n : Int)) = k.tmod (n : Int) + (n : Int) := IntWalk.wrap64_in _ (by omega)
  rw [hw, Int.tmod_eq_emod_of_nonneg (by omega)]
  have h2 := Int.emod_nonneg (k.tmod (n : Int) + (n : Int)) (b := (n : Int)) (by omega)
  have h3 := Int.emod_lt_of_pos (k.tmod (n : Int) + (n : Int)) (b := (n : Int)) (by omega)
  exact ⟨((k.tmod (n : Int) + (n : Int)) % (n : Int)).toNat, by omega, by omega⟩
theorem at_byte (T : ByteArray) (K : Nat) (h : K < T.size) : T.data.toList[K]? = some T[K] := by
  have : K < T.data.toList.length := h
  rw [List.getElem?_eq_getElem this]; rfl
theorem put_list (T : ByteArray) (K : Nat) (y : Int) : (T.extract 0 K ++ oneB y ++ T.extract (K + 1) T.size).data.toList = T.data.toList.take K ++ UInt8.ofNat y.toNat :: T.data.toList.drop (K + 1) := by
  simp [ByteArray.data_append, ByteArray.data_extract, oneB, strOfNums]
  exact List.take_of_length_le (by simp)
theorem byte_sum (x : UInt8) (m : Int) (h0 : 0 ≤ m) (h1 : m ≤ 255) : (m = 0 → UInt8.ofNat (IntKind.u8.wrap ((x.toNat : Int) + m)).toNat = x) ∧ (m ≠ 0 → x ≠ UInt8.ofNat (IntKind.u8.wrap ((x.toNat : Int) + m)).toNat) := by
  have hx := u8_lt x
  rw [IntKind.wrap_u8']
  refine ⟨fun h => ?_, fun h e => ?_⟩
  · subst h
    apply UInt8.toNat_inj.1
    rw [UInt8.toNat_ofNat']
    omega
  · have := congrArg UInt8.toNat e
    rw [UInt8.toNat_ofNat'] at this
    omega
theorem put_same (T : ByteArray) (K : Nat) (h : K < T.size) (y : Int) (hy : UInt8.ofNat y.toNat = T[K]) : T.extract 0 K ++ oneB y ++ T.extract (K + 1) T.size = T := by
  apply ByteArray.ext
  apply Array.toList_inj.1
  have hl : K < T.data.toList.length := h
  rw [put_list, hy]
  have e : T[K] = T.data.toList[K] := rfl
  rw [e, ← List.drop_eq_getElem_cons hl, List.take_append_drop]
theorem conv1d (m : Int) (t : TypeId) (w : World) :
    (convert 42 9 (.slice (some ⟨w.heap.size, 0, none⟩) 1 1)).run Tryd.prog (w.alloc (.cells #[.int .u8 m] t)).drew = .ok (.string (oneB m)) (w.alloc (.cells #[.int .u8 m] t)).drew :=
  run_convert_bytes_arg _ 42 5 Tryd.underlying42 Tryd.underlying5 w.heap.size 0 1 1 [m] rfl (fun i hi => by
    obtain rfl : i = 0 := by omega
    simp) 9 Tryd.underlying9


/-- The same byte, where a message's place was made behind it. -/
theorem conv1e (y : Int) (t : TypeId) (o : Obj) (w : World) :
    (convert 42 9 (.slice (some ⟨w.heap.size, 0, none⟩) 1 1)).run Tryd.prog ((w.alloc (.cells #[.int .u8 y] t)).alloc o).drew = .ok (.string (oneB y)) ((w.alloc (.cells #[.int .u8 y] t)).alloc o).drew :=
  run_convert_bytes_arg _ 42 5 Tryd.underlying42 Tryd.underlying5 w.heap.size 0 1 1 [y] rfl (fun i hi => by
    obtain rfl : i = 0 := by omega
    have h : (w.alloc (.cells #[.int .u8 y] t)).cell? ⟨w.heap.size, 0, none⟩ = some (.int .u8 y) := by simp
    exact (World.cell?_alloc_lt (w.alloc (.cells #[.int .u8 y] t)) o ⟨w.heap.size, 0, none⟩ (by simp)).trans h) 9 Tryd.underlying9
/-- The same byte, where a message's place was made ahead of it. -/
theorem conv1f (y : Int) (t : TypeId) (o : Obj) (w : World) :
    (convert 42 9 (.slice (some ⟨w.heap.size + 1, 0, none⟩) 1 1)).run Tryd.prog ((w.alloc o).alloc (.cells #[.int .u8 y] t)).drew = .ok (.string (oneB y)) ((w.alloc o).alloc (.cells #[.int .u8 y] t)).drew := by
  have h := conv1d y t (w.alloc o)
  rw [show (w.alloc o).heap.size = w.heap.size + 1 from by simp] at h
  exact h

/-- A message is stored in block X. -/
theorem endSet {w0 w3 : World} {X b B : Nat} {m0 m : M} {v : Value} {es : List Int} (hX : MB w3 X m0) (hb : Mat w3 b m) (hlt : b < X) (hc : Chained w3 v es) (hB : Below B w0 w3) (hBX : B ≤ X) (d : M) :
    Mat ((((((((w3.setCell ⟨X, 0, none⟩ (.int .i64 d.kind)).setCell ⟨X, 1, none⟩ (.int .i64 d.src)).setCell ⟨X, 2, none⟩ (.int .i64 d.dst)).setCell ⟨X, 3, none⟩ (.int .i64 d.epoch)).setCell ⟨X, 4, none⟩ (.int .i64 d.seq)).setCell ⟨X, 5, none⟩ (.int .i64 d.off)).setCell ⟨X, 6, none⟩ (.int .i64 d.len)).setCell ⟨X, 7, none⟩ (.string d.data)) X d ∧
    Chained ((((((((w3.setCell ⟨X, 0, none⟩ (.int .i64 d.kind)).setCell ⟨X, 1, none⟩ (.int .i64 d.src)).setCell ⟨X, 2, none⟩ (.int .i64 d.dst)).setCell ⟨X, 3, none⟩ (.int .i64 d.epoch)).setCell ⟨X, 4, none⟩ (.int .i64 d.seq)).setCell ⟨X, 5, none⟩ (.int .i64 d.off)).setCell ⟨X, 6, none⟩ (.int .i64 d.len)).setCell ⟨X, 7, none⟩ (.string d.data)) v es ∧
    Mat ((((((((w3.setCell ⟨X, 0, none⟩ (.int .i64 d.kind)).setCell ⟨X, 1, none⟩ (.int .i64 d.src)).setCell ⟨X, 2, none⟩ (.int .i64 d.dst)).setCell ⟨X, 3, none⟩ (.int .i64 d.epoch)).setCell ⟨X, 4, none⟩ (.int .i64 d.seq)).setCell ⟨X, 5, none⟩ (.int .i64 d.off)).setCell ⟨X, 6, none⟩ (.int .i64 d.len)).setCell ⟨X, 7, none⟩ (.string d.data)) b m ∧
    Below B w0 ((((((((w3.setCell ⟨X, 0, none⟩ (.int .i64 d.kind)).setCell ⟨X, 1, none⟩ (.int .i64 d.src)).setCell ⟨X, 2, none⟩ (.int .i64 d.dst)).setCell ⟨X, 3, none⟩ (.int .i64 d.epoch)).setCell ⟨X, 4, none⟩ (.int .i64 d.seq)).setCell ⟨X, 5, none⟩ (.int .i64 d.off)).setCell ⟨X, 6, none⟩ (.int .i64 d.len)).setCell ⟨X, 7, none⟩ (.string d.data)) :=
  ⟨(hX.eight d).mat, hc.eight hX d, hb.belowB (below_eight (Below.refl X w3) (Nat.le_refl X) d) hlt, below_eight hB hBX d⟩

set_option maxRecDepth 100000 in
theorem altered_out (m : M) (k y : Int) (w : World) (hs : 4096 < m.data.size) :
    Calls Tryd.prog 5 #[m.val, .int .i64 k, .int .u8 y] w fun e w' => e = .returned (.bool true) ∧ Below w.heap.size w w' := by
  have hsI : (4096 : Int) < (m.data.size : Int) := by omega
  go_enter Tryd.func5, Tryd.ntmps5
  go_wp2
  go_ret
  exact ⟨rfl, by go_grown⟩

set_option maxRecDepth 100000 in
set_option maxHeartbeats 2000000 in
theorem altered_bad (m : M) (k y : Int) (w : World) (hT : Tab w) (hg : ErrType w) (hs : m.data.size ≤ 4096) (hk : m.chk ≠ 0) :
    Calls Tryd.prog 5 #[m.val, .int .i64 k, .int .u8 y] w fun e w' => e = .returned (.bool true) ∧ Below w.heap.size w w' := by
  have hsI : (m.data.size : Int) ≤ 4096 := by omega
  have HB0 := Lib.hid (show Below w.heap.size w (w.alloc (.cells m.cells 23)) from (Below.refl _ _).alloc (Nat.le_refl _) _)
  have HM0 := Lib.hid (Mat.fresh w m 23)
  have HT := Lib.hid hT
  have HG := Lib.hid hg
  clear hT hg
  go_enter Tryd.func5, Tryd.ntmps5
  go_wp2_with fail
  go_at_call 7
  refine (encode_any m _ (HT.out.below HB0.out)).mono ?_
  rintro e w1 ⟨v, rfl, hc1, hb1⟩
  have HB1 := Lib.hid (HB0.out.trans (hb1.mono HB0.out.size))
  have HM1 := Lib.hid (HM0.out.below hb1)
  have HC1 := Lib.hid hc1
  clear HB0 HM0 hb1 hc1
  obtain ⟨c0, c1, c2, c3, c4, c5, c6, c7⟩ := HM1.out.all
  go_wp2_with fail
  go_at_call 8
  refine (rencode_any m _).mono ?_
  rintro e w2 ⟨rfl, hb2⟩
  have HB2 := Lib.hid (HB1.out.trans (hb2.mono HB1.out.size))
  have HM2 := Lib.hid (HM1.out.below hb2)
  have HC2 := Lib.hid (HC1.out.below hb2)
  clear HB1 HM1 HC1 hb2 c0 c1 c2 c3 c4 c5 c6 c7
  go_wp2_with fail
  go_at_call 9
  refine (code_any v (errOf m.chk) _ (HG.out.below HB2.out) HC2.out (errOf_len _)).mono ?_
  rintro e w3 ⟨rfl, hb3⟩
  rw [errOf_head]
  have HB3 := Lib.hid (HB2.out.trans (hb3.mono HB2.out.size))
  have HM3 := Lib.hid (HM2.out.below hb3)
  clear HB2 HM2 HC2 hb3
  have hk2 : (m.chk == 0) = false := by simpa using hk
  have hk3 : (m.chk != 0) = true := by simpa using hk
  rw [encS_bad hk]
  clear HM3
  go_wp2
  go_ret
  exact ⟨rfl, HB3.out⟩

set_option maxRecDepth 100000 in
set_option maxHeartbeats 4000000 in
theorem altered_in (m : M) (k y : Int) (w : World) (hT : Tab w) (hg : ErrType w) (hs : m.data.size ≤ 4096) (hk : m.chk = 0) (hy0 : 0 ≤ y) (hy1 : y ≤ 255) :
    Calls Tryd.prog 5 #[m.val, .int .i64 k, .int .u8 y] w fun e w' => e = .returned (.bool true) ∧ Below w.heap.size w w' := by
  have hsI : (m.data.size : Int) ≤ 4096 := by omega
  have HB0 := Lib.hid (show Below w.heap.size w (w.alloc (.cells m.cells 23)) from (Below.refl _ _).alloc (Nat.le_refl _) _)
  have HM0 := Lib.hid (Mat.fresh w m 23)
  have HT := Lib.hid hT
  have HG := Lib.hid hg
  clear hT hg
  go_enter Tryd.func5, Tryd.ntmps5
  go_wp2_with fail
  go_at_call 7
  refine (encode_any m _ (HT.out.below HB0.out)).mono ?_
  rintro e w1 ⟨v, rfl, hc1, hb1⟩
  have HB1 := Lib.hid (HB0.out.trans (hb1.mono HB0.out.size))
  have HM1 := Lib.hid (HM0.out.below hb1)
  have HC1 := Lib.hid hc1
  clear HB0 HM0 hb1 hc1
  obtain ⟨c0, c1, c2, c3, c4, c5, c6, c7⟩ := HM1.out.all
  go_wp2_with fail
  go_at_call 8
  refine (rencode_any m _).mono ?_
  rintro e w2 ⟨rfl, hb2⟩
  have HB2 := Lib.hid (HB1.out.trans (hb2.mono HB1.out.size))
  have HM2 := Lib.hid (HM1.out.below hb2)
  have HC2 := Lib.hid (HC1.out.below hb2)
  clear HB1 HM1 HC1 hb2 c0 c1 c2 c3 c4 c5 c6 c7
  go_wp2_with fail
  go_at_call 9
  refine (code_any v (errOf m.chk) _ (HG.out.below HB2.out) HC2.out (errOf_len _)).mono ?_
  rintro e w3 ⟨rfl, hb3⟩
  rw [errOf_head]
  have HB3 := Lib.hid (HB2.out.trans (hb3.mono HB2.out.size))
  have HM3 := Lib.hid (HM2.out.below hb3)
  clear HB2 HM2 HC2 hb3
  rw [hk]
  obtain ⟨hok, hds⟩ := M.ok_all hk
  have HSZ := Lib.hid (encS_size hk)
  have HDE := Lib.hid (dec_enc hk)
  have HEN := Lib.hid (encS_ok hk)
  obtain ⟨T, hTe⟩ : ∃ T, encS m = T := ⟨_, rfl⟩
  rw [hTe] at HSZ HDE HEN ⊢
  have hTI : T.size ≤ 3000 := by have := HSZ.out; omega
  obtain ⟨K, hKlt, hK⟩ := place k T.size (by have := HSZ.out; omega) hTI
  have hT0 : (T.size : Int) ≠ 0 := by have := HSZ.out; omega
  have hT0' : ((T.size : Int) == 0) = false := by simpa using hT0
  have hKI : (K : Int) < (T.size : Int) := by omega
  clear hok hk hTe
  go_upto_region 10 with fail
  have hby := byte_sum T[K] y hy0 hy1
  generalize hqq : IntKind.u8.wrap ((T[K].toNat : Int) + y) = q at hby
  have HOUT := Lib.hid (show (y = 0 → decM (T.extract 0 K ++ oneB q ++ T.extract (K + 1) T.size) = m ∧ decL (T.extract 0 K ++ oneB q ++ T.extract (K + 1) T.size) = []) ∧ (y ≠ 0 → decM (T.extract 0 K ++ oneB q ++ T.extract (K + 1) T.size) = M.zero ∧ decL (T.extract 0 K ++ oneB q ++ T.extract (K + 1) T.size) = [20]) from by
    refine ⟨fun h => ?_, fun h => ?_⟩
    · rw [put_same T K hKlt q (hby.1 h)]; exact HDE.out
    · have ho := openOf_other (strOfNums m.bytes) K T[K] (UInt8.ofNat q.toNat) (T.extract 0 K ++ oneB q ++ T.extract (K + 1) T.size) (by rw [← HEN.out]; exact hKlt) (by rw [← HEN.out]; exact at_byte T K hKlt) (hby.2 h) (by rw [← HEN.out]; exact put_list T K q)
      unfold decM decL
      rw [ho]; exact ⟨rfl, rfl⟩)
  have h1 : (oneB q).size ≤ 1 := Nat.le_of_eq (oneB_size q)
  have HR := Lib.hid (show (T.extract 0 K ++ oneB q ++ T.extract (K + 1) T.size).size ≤ 1000000 by rw [ByteArray.size_append, ByteArray.size_append, ByteArray.size_extract, ByteArray.size_extract]; omega)
  have hba : Below w3.heap.size w3 ((w3.alloc (.cells #[.int .u8 q] 5)).drew) := ((Below.refl _ _).alloc (Nat.le_refl _) _).drew
  have hbb : Below w3.heap.size w3 (((w3.alloc (.cells #[.int .u8 q] 5)).alloc (.cells M.zero.cells 23)).drew) := (((Below.refl _ _).alloc (Nat.le_refl _) _).alloc (by simp) _).drew
  have hbc : Below w3.heap.size w3 (((w3.alloc (.cells M.zero.cells 23)).alloc (.cells #[.int .u8 q] 5)).drew) := (((Below.refl _ _).alloc (Nat.le_refl _) _).alloc (by simp) _).drew
  have hbw := HM3.out.lt
  have HBa := Lib.hid (HB3.out.trans (hba.mono HB3.out.size))
  have HBb := Lib.hid (HB3.out.trans (hbb.mono HB3.out.size))
  have HBc := Lib.hid (HB3.out.trans (hbc.mono HB3.out.size))
  have HMa := Lib.hid (HM3.out.below hba)
  have HMb := Lib.hid (HM3.out.below hbb)
  have HMc := Lib.hid (HM3.out.below hbc)
  have HXb := Lib.hid (show MB (((w3.alloc (.cells #[.int .u8 q] 5)).alloc (.cells M.zero.cells 23)).drew) (w3.heap.size + 1) M.zero from by
    have h := MB.fresh (w3.alloc (.cells #[.int .u8 q] 5)) M.zero
    rw [show (w3.alloc (.cells #[.int .u8 q] 5)).heap.size = w3.heap.size + 1 from by simp] at h
    exact h)
  have HXc := Lib.hid (show MB (((w3.alloc (.cells M.zero.cells 23)).alloc (.cells #[.int .u8 q] 5)).drew) w3.heap.size M.zero from (MB.fresh w3 M.zero).below (((Below.refl _ _).alloc (Nat.le_refl _) _).drew))
  have HDa := Lib.hid (decode_any (T.extract 0 K ++ oneB q ++ T.extract (K + 1) T.size) ((w3.alloc (.cells #[.int .u8 q] 5)).drew) (HT.out.below HBa.out) (HG.out.below HBa.out) HR.out)
  have HDb := Lib.hid (decode_any (T.extract 0 K ++ oneB q ++ T.extract (K + 1) T.size) (((w3.alloc (.cells #[.int .u8 q] 5)).alloc (.cells M.zero.cells 23)).drew) (HT.out.below HBb.out) (HG.out.below HBb.out) HR.out)
  have HDc := Lib.hid (decode_any (T.extract 0 K ++ oneB q ++ T.extract (K + 1) T.size) (((w3.alloc (.cells M.zero.cells 23)).alloc (.cells #[.int .u8 q] 5)).drew) (HT.out.below HBc.out) (HG.out.below HBc.out) HR.out)
  have hcva := conv1d q 5 w3
  have hcvb := conv1e q 5 (.cells M.zero.cells 23) w3
  have hcvc := conv1f q 5 (.cells M.zero.cells 23) w3
  obtain ⟨d, hd⟩ : ∃ d, decM (T.extract 0 K ++ oneB q ++ T.extract (K + 1) T.size) = d := ⟨_, rfl⟩
  obtain ⟨l, hl⟩ : ∃ l, decL (T.extract 0 K ++ oneB q ++ T.extract (K + 1) T.size) = l := ⟨_, rfl⟩
  have HLN := Lib.hid (decL_len (T.extract 0 K ++ oneB q ++ T.extract (K + 1) T.size))
  rw [hd, hl] at HOUT HDa HDb HDc
  rw [hl] at HLN
  have hK0 : (0 : Int) ≤ (K : Int) := by omega
  have hK1 : (K : Int) ≤ (T.size : Int) := by omega
  have hK2 : (K : Int) + 1 ≤ (T.size : Int) := by omega
  have hK3 : (0 : Int) ≤ (K : Int) + 1 := by omega
  have hK4 : ((K : Int) + 1).toNat = K + 1 := by omega
  have hKw : IntKind.i64.wrap ((K : Int) + 1) = (K : Int) + 1 := IntWalk.i64_in _ (by omega)
  clear hby hba hbb hbc HDE HEN HR HM3 hd hl hds
  go_cut [12, 13] (fun s12 s13 wx => ∃ X : Nat, s12 = .pointer (some ⟨X, 0, none⟩) ∧ Mat wx X d ∧ Chained wx s13 l ∧ Mat wx w.heap.size m ∧ Below w.heap.size w wx)
  case first =>
    go_region_with (go_at_call 12; first
      | (with_reducible refine HDa.out.mono ?_; rintro e w4 ⟨v4, rfl, hc4, hb4⟩; have HC4 := Lib.hid hc4; have HM4 := Lib.hid (HMa.out.below hb4); have HB4 := Lib.hid (HBa.out.trans (hb4.mono HBa.out.size)); clear hc4 hb4)
      | (with_reducible refine HDb.out.mono ?_; rintro e w4 ⟨v4, rfl, hc4, hb4⟩; have HC4 := Lib.hid hc4; have HM4 := Lib.hid (HMb.out.below hb4); have HB4 := Lib.hid (HBb.out.trans (hb4.mono HBb.out.size)); have HX4 := Lib.hid (HXb.out.below hb4); (obtain ⟨c0, c1, c2, c3, c4, c5, c6, c7⟩ := HX4.out.mat.all); have f0 := HX4.out.free 0; have f1 := HX4.out.free 1; have f2 := HX4.out.free 2; have f3 := HX4.out.free 3; have f4 := HX4.out.free 4; have f5 := HX4.out.free 5; have f6 := HX4.out.free 6; have f7 := HX4.out.free 7; clear hc4 hb4)
      | (with_reducible refine HDc.out.mono ?_; rintro e w4 ⟨v4, rfl, hc4, hb4⟩; have HC4 := Lib.hid hc4; have HM4 := Lib.hid (HMc.out.below hb4); have HB4 := Lib.hid (HBc.out.trans (hb4.mono HBc.out.size)); have HX4 := Lib.hid (HXc.out.below hb4); (obtain ⟨c0, c1, c2, c3, c4, c5, c6, c7⟩ := HX4.out.mat.all); have f0 := HX4.out.free 0; have f1 := HX4.out.free 1; have f2 := HX4.out.free 2; have f3 := HX4.out.free 3; have f4 := HX4.out.free 4; have f5 := HX4.out.free 5; have f6 := HX4.out.free 6; have f7 := HX4.out.free 7; clear hc4 hb4)
      | fail)
    all_goals go_wp2_with fail
    all_goals go_meet
    all_goals first
      | exact ⟨_, rfl, (endSet HX4.out HM4.out (by omega) HC4.out HB4.out (by omega) d).1, (endSet HX4.out HM4.out (by omega) HC4.out HB4.out (by omega) d).2.1, (endSet HX4.out HM4.out (by omega) HC4.out HB4.out (by omega) d).2.2.1, (endSet HX4.out HM4.out (by omega) HC4.out HB4.out (by omega) d).2.2.2⟩
      | exact ⟨_, rfl, Mat.fresh w4 d 23, HC4.out.below ((Below.refl _ _).alloc (Nat.le_refl _) _), HM4.out.below ((Below.refl _ _).alloc (Nat.le_refl _) _), HB4.out.alloc HB4.out.size _⟩
      | fail
  case rest =>
    obtain ⟨X, rfl, hX, hc, hb, hB⟩ := hcut
    have HB := Lib.hid hB
    have HC := Lib.hid hc
    have HX := Lib.hid hX
    have HM := Lib.hid hb
    clear HDa HDb HDc HBa HBb HBc HMa HMb HMc HXb HXc hcva hcvb hcvc hK hKw hK4 hqq h1 hX hc hb hB HB3
    by_cases hy : y = 0
    · obtain ⟨rfl, rfl⟩ := HOUT.out.1 hy
      subst hy
      have h0 := HC.out
      obtain rfl := h0
      have hq := msg_same d
      obtain ⟨c0, c1, c2, c3, c4, c5, c6, c7⟩ := HX.out.all
      obtain ⟨d0, d1, d2, d3, d4, d5, d6, d7⟩ := HM.out.all
      clear HC HOUT
      go_wp2_with fail
      go_at_call 9
      refine (code_any .nilIface [] _ (HG.out.below HB.out) rfl (by decide)).mono ?_
      rintro e w7 ⟨rfl, hb7⟩
      have HB7 := Lib.hid (HB.out.trans (hb7.mono HB.out.size))
      clear hb7 c0 c1 c2 c3 c4 c5 c6 c7 d0 d1 d2 d3 d4 d5 d6 d7
      go_wp2
      go_ret
      exact ⟨rfl, HB7.out⟩
    · obtain ⟨rfl, rfl⟩ := HOUT.out.2 hy
      have hy2 : (y == 0) = false := by simpa using hy
      have hq := msg_same M.zero
      obtain ⟨c0, c1, c2, c3, c4, c5, c6, c7⟩ := HX.out.all
      clear HOUT hy HM
      go_wp2_with fail
      go_at_call 9
      refine (code_any _ [20] _ (HG.out.below HB.out) HC.out (by decide)).mono ?_
      rintro e w7 ⟨rfl, hb7⟩
      have HB7 := Lib.hid (HB.out.trans (hb7.mono HB.out.size))
      have HC7 := Lib.hid (HC.out.below hb7)
      clear hb7 c0 c1 c2 c3 c4 c5 c6 c7 HB HC HX
      go_wp2_with fail
      go_at_call 15
      refine (fieldIs_one _ 20 20 _ (HG.out.below HB7.out) HC7.out (by decide)).mono ?_
      rintro e w8 ⟨rfl, hb8⟩
      rw [show ((20 : Int) == 20) = true from rfl]
      have HB8 := Lib.hid (HB7.out.trans (hb8.mono HB7.out.size))
      have HC8 := Lib.hid (HC7.out.below hb8)
      clear hb8 HB7 HC7
      go_wp2_with fail
      go_at_call 15
      refine (fieldIs_one _ 20 30 _ (HG.out.below HB8.out) HC8.out (by decide)).mono ?_
      rintro e w9 ⟨rfl, hb9⟩
      rw [show ((20 : Int) == 30) = false from rfl]
      have HB9 := Lib.hid (HB8.out.trans (hb9.mono HB8.out.size))
      clear hb9 HB8 HC8
      go_wp2
      go_ret
      exact ⟨rfl, HB9.out⟩
end Go.Proofs.YtjgicapjbibioaaDoor
