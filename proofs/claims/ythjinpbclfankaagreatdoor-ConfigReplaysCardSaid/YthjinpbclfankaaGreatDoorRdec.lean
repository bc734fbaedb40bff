/-
  Decode (the document's own), by a contract: nine bytes are an order, others none.
-/
import Derived.Test.YthjinpbclfankaaGreatDoorPdec
import Derived.Test.YthjinpbclfankaaGreatDoorRrnum
namespace Go.Proofs.YthjinpbclfankaaGreatDoor
open Go.RowKit

theorem rnumD {s : ByteArray} (h9 : s.size = 9) {R i : Nat} (hi : i < 5) {w : World} (hR : Rdr w R s (offs i)) :
    Calls Tryz.prog 19 #[.pointer (some ⟨R, 0, none⟩), .int .i64 (wid5 i)] w fun e w' => e = .returned (.tuple #[.int .i64 (numD s i), .agg #[.slice none 0 0, .int .i64 0]]) ∧ Rdr w' R s (offs (i + 1)) ∧ Fr R none w w' := by
  have hl : offs i + (wid5 i).toNat ≤ s.size := by
    rw [h9]
    rcases (show i = 0 ∨ i = 1 ∨ i = 2 ∨ i = 3 ∨ i = 4 by omega) with rfl | rfl | rfl | rfl | rfl <;> decide
  have hw := wid5_le i
  have hk : ((wid5 i).toNat : Int) = wid5 i := by omega
  have hv := numD_bounds s i
  have e := hvf_lev s (offs i) (wid5 i).toNat hl
  have := rrnum_okv R (offs i) s (wid5 i).toNat w hR (by omega) hl (by rw [hk]; exact wid5_width i) (by omega) (by rw [e]; unfold numD at hv; omega)
  rw [hk, e, ← offs_succ] at this
  exact this
set_option maxRecDepth 100000 in
set_option maxHeartbeats 4000000 in
theorem rdec_any (s : ByteArray) (w : World) :
    Calls Tryz.prog 6 #[.string s] w fun e w' => e = .returned (.tuple #[(decO s).1.val, .int .i64 (decO s).2]) ∧ Below w.heap.size w w' := by
  have hbz : Below w.heap.size w (w.alloc (.cells #[.int .i64 0, .int .i64 0, .int .i64 0, .int .i64 0, .int .i64 0] 31)) := (Below.refl _ _).alloc (Nat.le_refl _) _
  by_cases h9 : s.size = 9
  case neg =>
    have e1 : ((s.size : Int) != 9) = true := by simpa using fun e : (s.size : Int) = 9 => h9 (by omega)
    have HNO := Lib.hid (decO_no h9)
    have HB := Lib.hid hbz
    clear hbz h9
    go_enter Tryz.func6, Tryz.ntmps6
    go_wp2_with fail
    refine bodyPost_ret (results_cell_tmp rfl _ _ w.heap.size 31 #[.int .i64 0, .int .i64 0, .int .i64 0, .int .i64 0, .int .i64 0] (0, 0) _ rfl (heap_alloc_new _ _) Tryz.underlying31 rfl (by kernel_rfl)) rfl ?_
    rw [HNO.out]
    exact ⟨rfl, HB.out⟩
  case pos =>
  have e1 : ((s.size : Int) != 9) = false := by simpa using (show (s.size : Int) = 9 by omega)
  have HYES := Lib.hid (decO_yes h9)
  have H9 := Lib.hid h9
  have hA0 : OB 31 (w.alloc (.cells #[.int .i64 0, .int .i64 0, .int .i64 0, .int .i64 0, .int .i64 0] 31)) w.heap.size odz := heap_alloc_new _ _
  have hA := hA0.below ((Below.refl _ _).alloc (Nat.le_refl _) (.cells #[.string s, .int .i64 0] 66))
  have hR0 : Rdr ((w.alloc (.cells #[.int .i64 0, .int .i64 0, .int .i64 0, .int .i64 0, .int .i64 0] 31)).alloc (.cells #[.string s, .int .i64 0] 66)) (w.heap.size + 1) s (offs 0) := by
    have hz : (w.alloc (.cells #[.int .i64 0, .int .i64 0, .int .i64 0, .int .i64 0, .int .i64 0] 31)).heap.size = w.heap.size + 1 := by simp
    have hn := heap_alloc_new (w.alloc (.cells #[.int .i64 0, .int .i64 0, .int .i64 0, .int .i64 0, .int .i64 0] 31)) (.cells #[.string s, .int .i64 0] 66)
    rw [hz] at hn
    refine ⟨cell_of_row _ _ 0 _ _ _ hn, cell_of_row _ _ 1 _ _ _ hn, ?_⟩
    unfold World.frozen?; simp only [hn]; simp
  have HA0 := Lib.hid hA
  have HR0 := Lib.hid hR0
  have HB0 := Lib.hid (hbz.alloc hbz.size (.cells #[.string s, .int .i64 0] 66))
  clear hbz hA0 hA hR0 h9
  go_enter Tryz.func6, Tryz.ntmps6
  go_wp2_with fail
  generalize (w.alloc (.cells #[.int .i64 0, .int .i64 0, .int .i64 0, .int .i64 0, .int .i64 0] 31)).alloc (.cells #[.string s, .int .i64 0] 66) = W0 at HA0 HR0 HB0 ⊢
  go_at_call 19
  refine (show Calls Tryz.prog 19 #[.pointer (some ⟨w.heap.size + 1, 0, none⟩), .int .i64 1] W0 _ from rnumD H9.out (i := 0) (by omega) HR0.out).mono ?_
  rintro e V1 ⟨rfl, hR, hF⟩
  have hal := (Below.refl V1.heap.size V1).alloc (Nat.le_refl _) (.cells #[.slice none 0 0, .int .i64 0] 69)
  have HA1 := Lib.hid ((HA0.out.fr hF (by omega) (by simp)).below hal)
  have HB1 := Lib.hid (HB0.out.trans (((hF.below (Nat.le_of_lt HR0.out.lt) (fun g hg => by cases hg)).mono (by omega)).trans (hal.mono (by have := hF.size; have := HB0.out.size; omega))))
  have HR1 := Lib.hid (hR.below hal)
  clear HA0 HB0 HR0 hR hF hal
  go_wp2_with fail
  generalize V1.alloc (.cells #[.slice none 0 0, .int .i64 0] 69) = W1 at HA1 HB1 HR1 ⊢
  go_at_call 19
  refine (show Calls Tryz.prog 19 #[.pointer (some ⟨w.heap.size + 1, 0, none⟩), .int .i64 2] W1 _ from rnumD H9.out (i := 1) (by omega) HR1.out).mono ?_
  rintro e V2 ⟨rfl, hR, hF⟩
  have hal := (Below.refl V2.heap.size V2).alloc (Nat.le_refl _) (.cells #[.slice none 0 0, .int .i64 0] 69)
  have HA2 := Lib.hid ((HA1.out.fr hF (by omega) (by simp)).below hal)
  have HB2 := Lib.hid (HB1.out.trans (((hF.below (Nat.le_of_lt HR1.out.lt) (fun g hg => by cases hg)).mono (by omega)).trans (hal.mono (by have := hF.size; have := HB1.out.size; omega))))
  have HR2 := Lib.hid (hR.below hal)
  clear HA1 HB1 HR1 hR hF hal
  go_wp2_with fail
  generalize V2.alloc (.cells #[.slice none 0 0, .int .i64 0] 69) = W2 at HA2 HB2 HR2 ⊢
  go_at_call 19
  refine (show Calls Tryz.prog 19 #[.pointer (some ⟨w.heap.size + 1, 0, none⟩), .int .i64 2] W2 _ from rnumD H9.out (i := 2) (by omega) HR2.out).mono ?_
  rintro e V3 ⟨rfl, hR, hF⟩
  have hal := (Below.refl V3.heap.size V3).alloc (Nat.le_refl _) (.cells #[.slice none 0 0, .int .i64 0] 69)
  have HA3 := Lib.hid ((HA2.out.fr hF (by omega) (by simp)).below hal)
  have HB3 := Lib.hid (HB2.out.trans (((hF.below (Nat.le_of_lt HR2.out.lt) (fun g hg => by cases hg)).mono (by omega)).trans (hal.mono (by have := hF.size; have := HB2.out.size; omega))))
  have HR3 := Lib.hid (hR.below hal)
  clear HA2 HB2 HR2 hR hF hal
  go_wp2_with fail
  generalize V3.alloc (.cells #[.slice none 0 0, .int .i64 0] 69) = W3 at HA3 HB3 HR3 ⊢
  go_at_call 19
  refine (show Calls Tryz.prog 19 #[.pointer (some ⟨w.heap.size + 1, 0, none⟩), .int .i64 2] W3 _ from rnumD H9.out (i := 3) (by omega) HR3.out).mono ?_
  rintro e V4 ⟨rfl, hR, hF⟩
  have hal := (Below.refl V4.heap.size V4).alloc (Nat.le_refl _) (.cells #[.slice none 0 0, .int .i64 0] 69)
  have HA4 := Lib.hid ((HA3.out.fr hF (by omega) (by simp)).below hal)
  have HB4 := Lib.hid (HB3.out.trans (((hF.below (Nat.le_of_lt HR3.out.lt) (fun g hg => by cases hg)).mono (by omega)).trans (hal.mono (by have := hF.size; have := HB3.out.size; omega))))
  have HR4 := Lib.hid (hR.below hal)
  clear HA3 HB3 HR3 hR hF hal
  go_wp2_with fail
  generalize V4.alloc (.cells #[.slice none 0 0, .int .i64 0] 69) = W4 at HA4 HB4 HR4 ⊢
  go_at_call 19
  refine (show Calls Tryz.prog 19 #[.pointer (some ⟨w.heap.size + 1, 0, none⟩), .int .i64 2] W4 _ from rnumD H9.out (i := 4) (by omega) HR4.out).mono ?_
  rintro e V5 ⟨rfl, hR, hF⟩
  have hal := (Below.refl V5.heap.size V5).alloc (Nat.le_refl _) (.cells #[.slice none 0 0, .int .i64 0] 69)
  have HA5 := Lib.hid ((HA4.out.fr hF (by omega) (by simp)).below hal)
  have HB5 := Lib.hid (HB4.out.trans (((hF.below (Nat.le_of_lt HR4.out.lt) (fun g hg => by cases hg)).mono (by omega)).trans (hal.mono (by have := hF.size; have := HB4.out.size; omega))))
  have HR5 := Lib.hid (hR.below hal)
  clear HA4 HB4 HR4 hR hF hal
  have hAa := HA5.out
  obtain ⟨a0, a1, a2, a3, a4⟩ := hAa.five
  have f0 := hAa.frozen 0
  have f1 := hAa.frozen 1
  have f2 := hAa.frozen 2
  have f3 := hAa.frozen 3
  have f4 := hAa.frozen 4
  obtain ⟨r1, r2⟩ := store5 hAa (numD s 0) (numD s 1) (numD s 2) (numD s 3) (numD s 4)
  have R1 := Lib.hid r1
  have R2 := Lib.hid r2
  clear r1 r2 hAa
  go_wp2_with fail
  refine bodyPost_ret (results_cell_tmp rfl _ _ w.heap.size 31 (decV s).cells (0, 0) _ rfl R1.out Tryz.underlying31 rfl (by kernel_rfl)) rfl ?_
  rw [HYES.out]
  exact ⟨rfl, HB5.out.grown R2.out HB5.out.size (fun q hq => by cases hq; exact Nat.le_refl _)⟩
end Go.Proofs.YthjinpbclfankaaGreatDoor
