/-
  ShelfSpoilt, walked: it answers true, and nothing that was there turns.
-/
import Derived.Test.YtacdbfaoeioflaaDoorShown
import Derived.Test.YtacdbfaoeioflaaDoorRparse
import Derived.Deep.RegionHeld
namespace Go.Proofs.YtacdbfaoeioflaaDoor
open Go.RowKit Go.PlainAid Go.Lib

/-- A text of one byte. -/
def oneB (m : Int) : ByteArray := strOfNums [m]
theorem oneB_size (m : Int) : (oneB m).size = 1 := rfl
theorem at_byte (T : ByteArray) (K : Nat) (h : K < T.size) : T.data.toList[K]? = some T[K] := by
  have : K < T.data.toList.length := h
  rw [List.getElem?_eq_getElem this]; rfl
theorem put_list (T : ByteArray) (K : Nat) (y : Int) : (T.extract 0 K ++ oneB y ++ T.extract (K + 1) T.size).data.toList = T.data.toList.take K ++ UInt8.ofNat y.toNat :: T.data.toList.drop (K + 1) := by
  simp [ByteArray.data_append, ByteArray.data_extract, oneB, strOfNums]
  exact List.take_of_length_le (by simp)
theorem byte_sum (x : UInt8) (m : Int) (h0 : 0 ≤ m) (h1 : m ≤ 255) : (m = 0 → UInt8.ofNat (IntKind.u8.wrap ((x.toNat : Int) + m)).toNat = x) ∧ (m ≠ 0 → x ≠ UInt8.ofNat (IntKind.u8.wrap ((x.toNat : Int) + m)).toNat) := by
  have hx := u8_lt x
  rw [IntKind.wrap_u8']
  refine ⟨fun h => ?_, fun h e => ?_⟩
  · subst h
    apply UInt8.toNat_inj.1
    rw [UInt8.toNat_ofNat']
    omega
  · have := congrArg UInt8.toNat e
    rw [UInt8.toNat_ofNat'] at this
    omega
theorem put_same (T : ByteArray) (K : Nat) (h : K < T.size) (y : Int) (hy : UInt8.ofNat y.toNat = T[K]) : T.extract 0 K ++ oneB y ++ T.extract (K + 1) T.size = T := by
  apply ByteArray.ext
  apply Array.toList_inj.1
  have hl : K < T.data.toList.length := h
  rw [put_list, hy]
  have e : T[K] = T.data.toList[K] := rfl
  rw [e, ← List.drop_eq_getElem_cons hl, List.take_append_drop]
theorem place31 (k : Int) : ∃ K : Nat, 1 ≤ K ∧ K < 32 ∧ wrap64 (1 + (wrap64 (wrap64 (k.tmod 31 + 32) - 1)).tmod 31) = (K : Int) := by
  have ha : k.tmod 31 < 31 := Int.tmod_lt_of_pos k (by omega)
  have hb : -31 < k.tmod 31 := Int.lt_tmod_of_pos k (b := 31) (by omega)
  have hw : wrap64 (k.tmod 31 + 32) = k.tmod 31 + 32 := IntWalk.wrap64_in _ (by omega)
  have hw2 : wrap64 (k.tmod 31 + 32 - 1) = k.tmod 31 + 31 := by rw [IntWalk.wrap64_in _ (by omega)]; omega
  rw [hw, hw2, Int.tmod_eq_emod_of_nonneg (by omega)]
  have h2 := Int.emod_nonneg (k.tmod 31 + 31) (b := 31) (by omega)
  have h3 := Int.emod_lt_of_pos (k.tmod 31 + 31) (b := 31) (by omega)
  rw [IntWalk.wrap64_in _ (by omega)]
  exact ⟨(1 + (k.tmod 31 + 31) % 31).toNat, by omega, by omega, by omega⟩
/-- A block that is written anew, cell by cell. -/
def set3 (w : World) (D : Nat) (q : Bk) : World := ((w.setCell ⟨D, 0, none⟩ (.int .i64 q.id)).setCell ⟨D, 1, none⟩ (.int .i64 q.ver)).setCell ⟨D, 2, none⟩ (.string q.data)
theorem ab_set3 {w : World} {D : Nat} {q0 : Bk} (h : AB w D q0) (q : Bk) : AB (set3 w D q) D q := by
  have h0 := heap_setCell_same w D 0 _ _ (.int .i64 q.id) h
  have h1 := heap_setCell_same _ D 1 _ _ (.int .i64 q.ver) h0
  exact heap_setCell_same _ D 2 _ _ (.string q.data) h1
theorem ab_set3_other {w : World} {D b : Nat} {q0 : Bk} (h : AB w b q0) (hne : b ≠ D) (q : Bk) : AB (set3 w D q) b q0 := by
  unfold AB set3
  rw [Below.heap_setCell _ _ _ _ hne, Below.heap_setCell _ _ _ _ hne, Below.heap_setCell _ _ _ _ hne]
  exact h
theorem below_set3 {B D : Nat} {a w : World} (h : Below B a w) (hD : B ≤ D) (q : Bk) : Below B a (set3 w D q) := ((h.setCell hD _).setCell hD _).setCell hD _
theorem conv_at (m : Int) (g : Nat) (w : World) (hc : w.cell? ⟨g, 0, none⟩ = some (.int .u8 m)) :
    (convert 31 9 (.slice (some ⟨g, 0, none⟩) 1 1)).run Tryd.prog w = .ok (.string (oneB m)) w := conv_in m rfl g w hc

set_option maxRecDepth 100000 in
set_option maxHeartbeats 8000000 in
theorem spoilt_in (b : Bk) (at_ m : Int) (w : World) (hT : Tab w) (hr : refE b 1 = 0) (hm0 : 0 ≤ m) (hm1 : m ≤ 255) :
    Calls Tryd.prog 4 #[b.val, .int .i64 at_, .int .u8 m] w fun e w' => e = .returned (.bool true) ∧ Below w.heap.size w w' := by
  have hd := (refE_zero.1 hr).2
  have hsz := recB_size hd 1
  obtain ⟨T, ht⟩ : ∃ t, recB b 1 = t := ⟨_, rfl⟩
  have HA := Lib.hid (fun w (T0 : Tab w) => ht ▸ recV_yes hr ▸ hr ▸ record_any b 1 w T0 (by omega))
  have HB := Lib.hid (fun w => ht ▸ recV_yes hr ▸ hr ▸ rrec_any b 1 w)
  have hb0 : Below w.heap.size w (w.alloc (.cells b.cells 23)) := (Below.refl _ _).alloc (Nat.le_refl _) _
  have A0 := Lib.hid (AB.fresh w b)
  have T0 := Lib.hid (hT.below hb0)
  have B0 := Lib.hid hb0
  have hdI : ¬ (1024 : Int) < (b.data.size : Int) := by omega
  rw [ht] at hsz
  have HZ := Lib.hid hsz
  have HR := Lib.hid hr
  have HT := Lib.hid ht
  clear hb0 hT hsz hr ht
  obtain ⟨d0, d1, d2⟩ := A0.out.all
  go_enter Tryd.func4, Tryd.ntmps4
  go_wp2_with fail
  generalize w.alloc (.cells #[.int .i64 b.id, .int .i64 b.ver, .string b.data] 23) = w0 at *
  go_at_call 5
  refine (HA.out w0 T0.out).mono ?_
  rintro e w1 ⟨rfl, k⟩
  have A1 := Lib.hid (A0.out.below k)
  have T1 := Lib.hid (T0.out.below k)
  have B1 := Lib.hid (B0.out.trans (k.mono B0.out.size))
  clear k d0 d1 d2 A0 T0 B0
  obtain ⟨d0, d1, d2⟩ := A1.out.all
  go_wp2_with fail
  go_at_call 6
  refine (HB.out w1).mono ?_
  rintro e w2 ⟨rfl, k⟩
  have A2 := Lib.hid (A1.out.below k)
  have T2 := Lib.hid (T1.out.below k)
  have B2 := Lib.hid (B1.out.trans (k.mono B1.out.size))
  clear k d0 d1 d2 A1 T1 B1
  obtain ⟨d0, d1, d2⟩ := A2.out.all
  obtain ⟨K, hK1, hK32, hK⟩ := place31 at_
  have hKT : K < T.size := by rw [HZ.out]; exact hK32
  go_wp2_with fail
  rw [hK]
  have hby := byte_sum T[K] m hm0 hm1
  generalize hy : IntKind.u8.wrap ((T[K].toNat : Int) + m) = y at hby
  obtain ⟨V, hV⟩ : ∃ V, T.extract 0 K ++ oneB y ++ T.extract (K + 1) T.size = V := ⟨_, rfl⟩
  have hVs : V.size ≤ 100000 := by rw [← hV, ByteArray.size_append, ByteArray.size_append, ByteArray.size_extract, ByteArray.size_extract, oneB_size]; have := HZ.out; omega
  obtain ⟨pb, hpb⟩ : ∃ q, parseB V = q := ⟨_, rfl⟩
  obtain ⟨pi, hpi⟩ : ∃ q, parseI V = q := ⟨_, rfl⟩
  have HP := Lib.hid (fun w T => hpi ▸ hpb ▸ parse_any V w T hVs)
  have P0 := Lib.hid (show m = 0 → pb = b ∧ pi = true from fun h => by
    rw [← hpb, ← hpi]
    refine parseB_some (parse_of HR.out ?_)
    rw [HT.out, ← hV, put_same T K hKT y (hby.1 h)])
  have P1 := Lib.hid (show m ≠ 0 → pb = Bk.zero ∧ pi = false from fun h => by
    rw [← hpb, ← hpi]
    refine parseB_none (parse_other HR.out (k := K) (x := T[K]) (y := UInt8.ofNat y.toNat) hK1 hK32 (by rw [HT.out]; exact at_byte T K hKT) (hby.2 h) ?_)
    rw [HT.out, ← hV]; exact put_list T K y)
  clear hby hVs hpb hpi
  have h1 : (oneB y).size ≤ 1 := Nat.le_of_eq (oneB_size y)
  have hT32 := HZ.out
  have q1 : (0 : Int) ≤ (K : Int) := by omega
  have q2 : (K : Int) ≤ (T.size : Int) := by omega
  have q3 : (K : Int) < (T.size : Int) := by omega
  have q4 : (K : Int) + 1 ≤ (T.size : Int) := by omega
  have q5 : (0 : Int) ≤ (K : Int) + 1 := by omega
  have q6 : ((K : Int) + 1).toNat = K + 1 := by omega
  have q7 : IntKind.i64.wrap ((K : Int) + 1) = (K : Int) + 1 := IntWalk.i64_in _ (by omega)
  have Ca := conv_at y w2.heap.size (w2.alloc (.cells #[.int .u8 y] 5)).drew (by simp)
  have Cb := conv_at y (w2.heap.size + 1) ((w2.alloc (.cells #[.int .i64 0, .int .i64 0, .string ⟨#[]⟩] 23)).alloc (.cells #[.int .u8 y] 5)).drew (by simp)
  have Cc := conv_at y w2.heap.size ((w2.alloc (.cells #[.int .u8 y] 5)).alloc (.cells #[.int .i64 0, .int .i64 0, .string ⟨#[]⟩] 23)).drew (by simp)
  have hTI : T.size ≤ 3000 := by omega
  clear hT32 hK1 hK32 hK hd
  have ga : Below w2.heap.size w2 (w2.alloc (.cells #[.int .u8 y] 5)).drew := ((Below.refl _ _).alloc (Nat.le_refl _) _).drew
  have Ta := Lib.hid (T2.out.below ga)
  have Aa := Lib.hid (A2.out.below ga)
  have Ba := Lib.hid (B2.out.trans (ga.mono B2.out.size))
  have gb : Below w2.heap.size w2 ((w2.alloc (.cells #[.int .i64 0, .int .i64 0, .string ⟨#[]⟩] 23)).alloc (.cells #[.int .u8 y] 5)).drew := (((Below.refl _ _).alloc (Nat.le_refl _) _).alloc (by simp) _).drew
  have Tb := Lib.hid (T2.out.below gb)
  have Ab := Lib.hid (A2.out.below gb)
  have Bb := Lib.hid (B2.out.trans (gb.mono B2.out.size))
  have gc : Below w2.heap.size w2 ((w2.alloc (.cells #[.int .u8 y] 5)).alloc (.cells #[.int .i64 0, .int .i64 0, .string ⟨#[]⟩] 23)).drew := (((Below.refl _ _).alloc (Nat.le_refl _) _).alloc (by simp) _).drew
  have Tc := Lib.hid (T2.out.below gc)
  have Ac := Lib.hid (A2.out.below gc)
  have Bc := Lib.hid (B2.out.trans (gc.mono B2.out.size))
  have Zb := Lib.hid (show AB ((w2.alloc (.cells #[.int .i64 0, .int .i64 0, .string ⟨#[]⟩] 23)).alloc (.cells #[.int .u8 y] 5)).drew w2.heap.size Bk.zero from (AB.fresh w2 Bk.zero).below (((Below.refl _ _).alloc (Nat.le_refl _) _).drew))
  have Zc := Lib.hid (show AB ((w2.alloc (.cells #[.int .u8 y] 5)).alloc (.cells #[.int .i64 0, .int .i64 0, .string ⟨#[]⟩] 23)).drew (w2.heap.size + 1) Bk.zero from by have h := (AB.fresh (w2.alloc (.cells #[.int .u8 y] 5)) Bk.zero).below ((Below.refl _ _).drew); rwa [show (w2.alloc (.cells #[.int .u8 y] 5)).heap.size = w2.heap.size + 1 by simp] at h)
  clear ga gb gc
  go_region_held (fun _ => True)
    (first | trivial | fail)
    (first
    | (go_at_call 7; with_reducible refine (HP.out (w2.alloc (.cells #[.int .u8 y] 5)).drew Ta.out).mono ?_; rintro e w3 ⟨rfl, k⟩; have kx : Below w3.heap.size w3 (w3.alloc (.cells pb.cells 23)) := (Below.refl _ _).alloc (Nat.le_refl _) _; have AF := Lib.hid ((Aa.out.below k).below kx); have BF := Lib.hid ((Ba.out.trans (k.mono Ba.out.size)).trans (kx.mono (Ba.out.trans (k.mono Ba.out.size)).size)); have XF := Lib.hid (AB.fresh w3 pb); clear k kx)
    | (go_at_call 7; with_reducible refine (HP.out ((w2.alloc (.cells #[.int .i64 0, .int .i64 0, .string ⟨#[]⟩] 23)).alloc (.cells #[.int .u8 y] 5)).drew Tb.out).mono ?_; rintro e w3 ⟨rfl, k⟩; have AG := Lib.hid (Ab.out.below k); have BG := Lib.hid (Bb.out.trans (k.mono Bb.out.size)); have ZG := Lib.hid (Zb.out.below k); have XF := Lib.hid (ab_set3 ZG.out pb); have AF := Lib.hid (ab_set3_other (D := w2.heap.size) AG.out (by have := A2.out.lt; omega) pb); have BF := Lib.hid (below_set3 (D := w2.heap.size) BG.out (by have := A2.out.lt; omega) pb); unfold set3 at XF AF BF; (obtain ⟨z0, z1, z2⟩ := ZG.out.all); (obtain ⟨f0, f1, f2⟩ := ZG.out.frees); clear k)
    | (go_at_call 7; with_reducible refine (HP.out ((w2.alloc (.cells #[.int .u8 y] 5)).alloc (.cells #[.int .i64 0, .int .i64 0, .string ⟨#[]⟩] 23)).drew Tc.out).mono ?_; rintro e w3 ⟨rfl, k⟩; have AG := Lib.hid (Ac.out.below k); have BG := Lib.hid (Bc.out.trans (k.mono Bc.out.size)); have ZG := Lib.hid (Zc.out.below k); have XF := Lib.hid (ab_set3 ZG.out pb); have AF := Lib.hid (ab_set3_other (D := (w2.heap.size + 1)) AG.out (by have := A2.out.lt; omega) pb); have BF := Lib.hid (below_set3 (D := (w2.heap.size + 1)) BG.out (by have := A2.out.lt; omega) pb); unfold set3 at XF AF BF; (obtain ⟨z0, z1, z2⟩ := ZG.out.all); (obtain ⟨f0, f1, f2⟩ := ZG.out.frees); clear k)
    | fail)
  all_goals
    obtain ⟨x0, x1, x2⟩ := XF.out.all
    obtain ⟨d0, d1, d2⟩ := AF.out.all
    have heq := bk_same pb
    by_cases hm : m = 0
    · obtain ⟨rfl, rfl⟩ := P0.out hm
      clear P0 P1
      go_wp2
      go_ret
      exact ⟨rfl, BF.out⟩
    · obtain ⟨rfl, rfl⟩ := P1.out hm
      have hz0 : Bk.zero.data.toList = [] := by kernel_rfl
      clear P0 P1
      go_wp2
      go_ret
      exact ⟨rfl, BF.out⟩
set_option maxRecDepth 100000 in
theorem spoilt_no (b : Bk) (at_ m : Int) (w : World) (hT : Tab w) (hr : refE b 1 ≠ 0) (hd : b.data.size ≤ 1024) :
    Calls Tryd.prog 4 #[b.val, .int .i64 at_, .int .u8 m] w fun e w' => e = .returned (.bool true) ∧ Below w.heap.size w w' := by
  obtain ⟨r, hre⟩ : ∃ r, refE b 1 = r := ⟨_, rfl⟩
  have HA := Lib.hid (fun w (T0 : Tab w) => hre ▸ recV_no hr ▸ record_any b 1 w T0 (by omega))
  have HB := Lib.hid (fun w => hre ▸ recV_no hr ▸ rrec_any b 1 w)
  have hb0 : Below w.heap.size w (w.alloc (.cells b.cells 23)) := (Below.refl _ _).alloc (Nat.le_refl _) _
  have A0 := Lib.hid (AB.fresh w b)
  have T0 := Lib.hid (hT.below hb0)
  have B0 := Lib.hid hb0
  have hdI : ¬ (1024 : Int) < (b.data.size : Int) := by omega
  rw [hre] at hr
  clear hb0 hT hre hd
  obtain ⟨d0, d1, d2⟩ := A0.out.all
  go_enter Tryd.func4, Tryd.ntmps4
  go_wp2_with fail
  generalize w.alloc (.cells #[.int .i64 b.id, .int .i64 b.ver, .string b.data] 23) = w0 at *
  go_at_call 5
  refine (HA.out w0 T0.out).mono ?_
  rintro e w1 ⟨rfl, k⟩
  have A1 := Lib.hid (A0.out.below k)
  have T1 := Lib.hid (T0.out.below k)
  have B1 := Lib.hid (B0.out.trans (k.mono B0.out.size))
  clear k d0 d1 d2 A0 T0 B0
  obtain ⟨d0, d1, d2⟩ := A1.out.all
  go_wp2_with fail
  go_at_call 6
  refine (HB.out w1).mono ?_
  rintro e w2 ⟨rfl, k⟩
  have T2 := Lib.hid (T1.out.below k)
  have B2 := Lib.hid (B1.out.trans (k.mono B1.out.size))
  clear k d0 d1 d2 A1 T1 B1
  go_wp2_with fail
  go_at_call 9
  refine (shown_any T2.out).mono ?_
  rintro e w3 ⟨rfl, k⟩
  have B3 := Lib.hid (B2.out.trans (k.mono B2.out.size))
  clear k
  go_wp2
  go_ret
  exact ⟨rfl, B3.out⟩
set_option maxRecDepth 100000 in
theorem spoilt_out (b : Bk) (at_ m : Int) (w : World) (hd : 1024 < b.data.size) :
    Calls Tryd.prog 4 #[b.val, .int .i64 at_, .int .u8 m] w fun e w' => e = .returned (.bool true) ∧ Below w.heap.size w w' := by
  have B0 := Lib.hid (show Below w.heap.size w (w.alloc (.cells b.cells 23)) from (Below.refl _ _).alloc (Nat.le_refl _) _)
  have A0 := Lib.hid (AB.fresh w b)
  obtain ⟨d0, d1, d2⟩ := A0.out.all
  have hdI : (1024 : Int) < (b.data.size : Int) := by omega
  clear hd
  go_enter Tryd.func4, Tryd.ntmps4
  go_wp2
  go_ret
  exact ⟨rfl, B0.out⟩
theorem shelfSpoilt_any (b : Bk) (at_ : Int) (m : Nat) (w : World) (hT : Tab w) (hm : m < 256) :
    Calls Tryd.prog 4 #[b.val, .int .i64 at_, .int .u8 m] w fun e w' => e = .returned (.bool true) ∧ Below w.heap.size w w' := by
  by_cases hr : refE b 1 = 0
  · exact spoilt_in b at_ m w hT hr (by omega) (by omega)
  · by_cases hd : 1024 < b.data.size
    · exact spoilt_out b at_ m w hd
    · exact spoilt_no b at_ m w hT hr (by omega)
end Go.Proofs.YtacdbfaoeioflaaDoor
