/-
  FieldWide, walked: it answers true, and nothing that was there turns, for every number and every width's choice, where errors.errorType holds the handle of 'error'.
-/
import Derived.Test.YtionhkcbobddjaaDoorWriter
namespace Go.Proofs.YtionhkcbobddjaaDoor
open Go.RowKit Go.Extern.Stop Go.Stop Go.Extern Go.PlainAid

theorem leb_first (n : Int) (k : Nat) (hk : 0 < k) : bt (strOfNums (leb n k)) 0 = n % 256 := by
  unfold bt
  have : 0 < (strOfNums (leb n k)).size := by rw [strOfNums_size]; simp [leb]; omega
  rw [dif_pos this]
  obtain ⟨k, rfl⟩ : ∃ j, k = j + 1 := ⟨k - 1, by omega⟩
  have e : (strOfNums (leb n (k + 1)))[0]'this = UInt8.ofNat (n % 256).toNat := rfl
  rw [e]
  have h1 : (n % 256).toNat < 256 := by omega
  simp [UInt8.toNat_ofNat']
  omega

theorem leb_length (n : Int) (k : Nat) (hk : k ≤ 8) : (leb n k).length = k := by simp [leb]; omega

theorem not_fits_three (n : Int) : ¬ Fits n 3 := by unfold Fits; omega

set_option maxRecDepth 100000 in
set_option maxHeartbeats 400000 in
theorem wide1_neg (n k : Int) (w : World) (hg : ErrType w) (h1 : n ≤ 9223372036854775807) (hk0 : 0 ≤ k) (hk1 : k ≤ 255) (hc : k % 4 = 0) (hn : n < 0) :
    Calls Tryd.prog 6 #[.int .i64 n, .int .u8 k] w fun e w' => e = .returned (.bool true) ∧ Below w.heap.size w w' := by
  have HG := Lib.hid hg
  have H1 := Lib.hid h1
  clear hg h1
  have HF := Lib.hid (show ¬ Fits n 1 by unfold Fits; omega)
  go_enter Tryd.func6, Tryd.ntmps6
  go_wp2_with fail
  go_at_call 10
  refine (newWriter _).mono ?_
  rintro e w1 ⟨rfl, hW, hb1, hz1⟩
  have HW := Lib.hid (show Wrt w1 (w.heap.size + 1) none [] by simpa using hW)
  have HB1 := Lib.hid (show Below w.heap.size w w1 from ((Below.refl _ _).alloc (Nat.le_refl _) _).trans (hb1.mono (by simp)))
  clear hW hb1 hz1
  go_wp2_with fail
  go_at_call 12
  refine (num_bad _ none [] n 1 _ HF.out H1.out HW.out).mono ?_
  rintro e w2 ⟨v, rfl, hch, hb2⟩
  have HB2 := Lib.hid (HB1.out.trans (hb2.mono HB1.out.size))
  have HG2 := Lib.hid (HG.out.below HB2.out)
  have HW2 := Lib.hid (HW.out.below hb2)
  have HC := Lib.hid hch
  clear hb2 hch
  go_wp2_with fail
  go_at_call 18
  refine (code_any v [1] _ HG2.out HC.out (by decide)).mono ?_
  rintro e w3 ⟨rfl, hb3⟩
  have HW3 := Lib.hid (HW2.out.below hb3)
  have HB3 := Lib.hid (HB2.out.trans (hb3.mono HB2.out.size))
  clear hb3
  go_wp2_with fail
  go_at_call 16
  refine (bytes_any _ _ _ _ HW3.out).mono ?_
  rintro e w4 ⟨rfl, rfl⟩
  have hemp : (strOfNums []).toList = [] := by rw [ByteArray.toList_eq]; rfl
  go_wp2
  go_ret
  exact ⟨rfl, HB3.out⟩
set_option maxRecDepth 100000 in
set_option maxHeartbeats 400000 in
theorem wide1_big (n k : Int) (w : World) (hg : ErrType w) (h1 : n ≤ 9223372036854775807) (hk0 : 0 ≤ k) (hk1 : k ≤ 255) (hc : k % 4 = 0) (hn : 256 ≤ n) :
    Calls Tryd.prog 6 #[.int .i64 n, .int .u8 k] w fun e w' => e = .returned (.bool true) ∧ Below w.heap.size w w' := by
  have HG := Lib.hid hg
  have H1 := Lib.hid h1
  clear hg h1
  have HF := Lib.hid (show ¬ Fits n 1 by unfold Fits; omega)
  go_enter Tryd.func6, Tryd.ntmps6
  go_wp2_with fail
  go_at_call 10
  refine (newWriter _).mono ?_
  rintro e w1 ⟨rfl, hW, hb1, hz1⟩
  have HW := Lib.hid (show Wrt w1 (w.heap.size + 1) none [] by simpa using hW)
  have HB1 := Lib.hid (show Below w.heap.size w w1 from ((Below.refl _ _).alloc (Nat.le_refl _) _).trans (hb1.mono (by simp)))
  clear hW hb1 hz1
  go_wp2_with fail
  go_at_call 12
  refine (num_bad _ none [] n 1 _ HF.out H1.out HW.out).mono ?_
  rintro e w2 ⟨v, rfl, hch, hb2⟩
  have HB2 := Lib.hid (HB1.out.trans (hb2.mono HB1.out.size))
  have HG2 := Lib.hid (HG.out.below HB2.out)
  have HW2 := Lib.hid (HW.out.below hb2)
  have HC := Lib.hid hch
  clear hb2 hch
  go_wp2_with fail
  go_at_call 18
  refine (code_any v [1] _ HG2.out HC.out (by decide)).mono ?_
  rintro e w3 ⟨rfl, hb3⟩
  have HW3 := Lib.hid (HW2.out.below hb3)
  have HB3 := Lib.hid (HB2.out.trans (hb3.mono HB2.out.size))
  clear hb3
  go_wp2_with fail
  go_at_call 16
  refine (bytes_any _ _ _ _ HW3.out).mono ?_
  rintro e w4 ⟨rfl, rfl⟩
  have hemp : (strOfNums []).toList = [] := by rw [ByteArray.toList_eq]; rfl
  go_wp2
  go_ret
  exact ⟨rfl, HB3.out⟩
set_option maxRecDepth 100000 in
set_option maxHeartbeats 400000 in
theorem wide1_ok (n k : Int) (w : World) (hg : ErrType w) (h1 : n ≤ 9223372036854775807) (hk0 : 0 ≤ k) (hk1 : k ≤ 255) (hc : k % 4 = 0) (hn0 : 0 ≤ n) (hn1 : n < 256) :
    Calls Tryd.prog 6 #[.int .i64 n, .int .u8 k] w fun e w' => e = .returned (.bool true) ∧ Below w.heap.size w w' := by
  have HG := Lib.hid hg
  have H1 := Lib.hid h1
  clear hg h1
  have HF := Lib.hid (show Fits n 1 by have := H1.out; unfold Fits; omega)
  have hbt := get_bt (strOfNums (leb n 1))
  have hf := leb_first n 1 (by decide)
  have hsz : (strOfNums (leb n 1)).size = 1 := by rw [strOfNums_size, leb_length n 1 (by decide)]
  have hm0 : 0 ≤ n % 256 := by omega
  go_enter Tryd.func6, Tryd.ntmps6
  go_wp2_with fail
  go_at_call 10
  refine (newWriter _).mono ?_
  rintro e w1 ⟨rfl, hW, hb1, hz1⟩
  have HW := Lib.hid (show Wrt w1 (w.heap.size + 1) none [] by simpa using hW)
  have HB1 := Lib.hid (show Below w.heap.size w w1 from ((Below.refl _ _).alloc (Nat.le_refl _) _).trans (hb1.mono (by simp)))
  clear hW hb1 hz1
  go_wp2_with fail
  go_at_call 12
  refine (num_ok _ none [] n 1 _ HF.out HW.out (by decide)).mono ?_
  rintro e w2 ⟨rfl, row, hW2, hr2, hfr⟩
  have HB2 := Lib.hid (show Below w.heap.size w w2 from HB1.out.trans ((hfr.below (Nat.le_of_lt HW.out.lt) (fun g hg => by cases hg)).mono (by simp)))
  have HW2 := Lib.hid hW2
  have HG2 := Lib.hid (HG.out.below HB2.out)
  clear hW2 hr2 hfr
  go_wp2_with fail
  go_at_call 18
  refine (code_any _ [] _ HG2.out rfl (by decide)).mono ?_
  rintro e w3 ⟨rfl, hb3⟩
  have HW3 := Lib.hid (HW2.out.below hb3)
  have HB3 := Lib.hid (HB2.out.trans (hb3.mono HB2.out.size))
  have HG3 := Lib.hid (HG2.out.below hb3)
  clear hb3
  go_wp2_with fail
  go_at_call 16
  refine (bytes_any _ _ _ _ HW3.out).mono ?_
  rintro e w4 ⟨rfl, rfl⟩
  simp only [List.nil_append, Int.reduceToNat]
  go_wp2_with fail
  go_at_call 12
  refine (num_bad _ _ _ 1 3 _ (not_fits_three 1) (by decide) HW3.out).mono ?_
  rintro e w5 ⟨v, rfl, hch, hb5⟩
  have HB5 := Lib.hid (HB3.out.trans (hb5.mono HB3.out.size))
  have HG5 := Lib.hid (HG3.out.below hb5)
  have HC := Lib.hid hch
  clear hb5 hch
  go_wp2_with fail
  go_at_call 18
  refine (code_any v [1] _ HG5.out HC.out (by decide)).mono ?_
  rintro e w6 ⟨rfl, hb6⟩
  have HB6 := Lib.hid (HB5.out.trans (hb6.mono HB5.out.size))
  clear hb6
  go_wp2
  go_ret
  exact ⟨rfl, HB6.out⟩
set_option maxRecDepth 100000 in
set_option maxHeartbeats 400000 in
theorem wide2_neg (n k : Int) (w : World) (hg : ErrType w) (h1 : n ≤ 9223372036854775807) (hk0 : 0 ≤ k) (hk1 : k ≤ 255) (hc : k % 4 = 1) (hn : n < 0) :
    Calls Tryd.prog 6 #[.int .i64 n, .int .u8 k] w fun e w' => e = .returned (.bool true) ∧ Below w.heap.size w w' := by
  have HG := Lib.hid hg
  have H1 := Lib.hid h1
  clear hg h1
  have HF := Lib.hid (show ¬ Fits n 2 by unfold Fits; omega)
  go_enter Tryd.func6, Tryd.ntmps6
  go_wp2_with fail
  go_at_call 10
  refine (newWriter _).mono ?_
  rintro e w1 ⟨rfl, hW, hb1, hz1⟩
  have HW := Lib.hid (show Wrt w1 (w.heap.size + 1) none [] by simpa using hW)
  have HB1 := Lib.hid (show Below w.heap.size w w1 from ((Below.refl _ _).alloc (Nat.le_refl _) _).trans (hb1.mono (by simp)))
  clear hW hb1 hz1
  go_wp2_with fail
  go_at_call 12
  refine (num_bad _ none [] n 2 _ HF.out H1.out HW.out).mono ?_
  rintro e w2 ⟨v, rfl, hch, hb2⟩
  have HB2 := Lib.hid (HB1.out.trans (hb2.mono HB1.out.size))
  have HG2 := Lib.hid (HG.out.below HB2.out)
  have HW2 := Lib.hid (HW.out.below hb2)
  have HC := Lib.hid hch
  clear hb2 hch
  go_wp2_with fail
  go_at_call 18
  refine (code_any v [1] _ HG2.out HC.out (by decide)).mono ?_
  rintro e w3 ⟨rfl, hb3⟩
  have HW3 := Lib.hid (HW2.out.below hb3)
  have HB3 := Lib.hid (HB2.out.trans (hb3.mono HB2.out.size))
  clear hb3
  go_wp2_with fail
  go_at_call 16
  refine (bytes_any _ _ _ _ HW3.out).mono ?_
  rintro e w4 ⟨rfl, rfl⟩
  have hemp : (strOfNums []).toList = [] := by rw [ByteArray.toList_eq]; rfl
  go_wp2
  go_ret
  exact ⟨rfl, HB3.out⟩
set_option maxRecDepth 100000 in
set_option maxHeartbeats 400000 in
theorem wide2_big (n k : Int) (w : World) (hg : ErrType w) (h1 : n ≤ 9223372036854775807) (hk0 : 0 ≤ k) (hk1 : k ≤ 255) (hc : k % 4 = 1) (hn : 65536 ≤ n) :
    Calls Tryd.prog 6 #[.int .i64 n, .int .u8 k] w fun e w' => e = .returned (.bool true) ∧ Below w.heap.size w w' := by
  have HG := Lib.hid hg
  have H1 := Lib.hid h1
  clear hg h1
  have HF := Lib.hid (show ¬ Fits n 2 by unfold Fits; omega)
  go_enter Tryd.func6, Tryd.ntmps6
  go_wp2_with fail
  go_at_call 10
  refine (newWriter _).mono ?_
  rintro e w1 ⟨rfl, hW, hb1, hz1⟩
  have HW := Lib.hid (show Wrt w1 (w.heap.size + 1) none [] by simpa using hW)
  have HB1 := Lib.hid (show Below w.heap.size w w1 from ((Below.refl _ _).alloc (Nat.le_refl _) _).trans (hb1.mono (by simp)))
  clear hW hb1 hz1
  go_wp2_with fail
  go_at_call 12
  refine (num_bad _ none [] n 2 _ HF.out H1.out HW.out).mono ?_
  rintro e w2 ⟨v, rfl, hch, hb2⟩
  have HB2 := Lib.hid (HB1.out.trans (hb2.mono HB1.out.size))
  have HG2 := Lib.hid (HG.out.below HB2.out)
  have HW2 := Lib.hid (HW.out.below hb2)
  have HC := Lib.hid hch
  clear hb2 hch
  go_wp2_with fail
  go_at_call 18
  refine (code_any v [1] _ HG2.out HC.out (by decide)).mono ?_
  rintro e w3 ⟨rfl, hb3⟩
  have HW3 := Lib.hid (HW2.out.below hb3)
  have HB3 := Lib.hid (HB2.out.trans (hb3.mono HB2.out.size))
  clear hb3
  go_wp2_with fail
  go_at_call 16
  refine (bytes_any _ _ _ _ HW3.out).mono ?_
  rintro e w4 ⟨rfl, rfl⟩
  have hemp : (strOfNums []).toList = [] := by rw [ByteArray.toList_eq]; rfl
  go_wp2
  go_ret
  exact ⟨rfl, HB3.out⟩
set_option maxRecDepth 100000 in
set_option maxHeartbeats 400000 in
theorem wide2_ok (n k : Int) (w : World) (hg : ErrType w) (h1 : n ≤ 9223372036854775807) (hk0 : 0 ≤ k) (hk1 : k ≤ 255) (hc : k % 4 = 1) (hn0 : 0 ≤ n) (hn1 : n < 65536) :
    Calls Tryd.prog 6 #[.int .i64 n, .int .u8 k] w fun e w' => e = .returned (.bool true) ∧ Below w.heap.size w w' := by
  have HG := Lib.hid hg
  have H1 := Lib.hid h1
  clear hg h1
  have HF := Lib.hid (show Fits n 2 by have := H1.out; unfold Fits; omega)
  have hbt := get_bt (strOfNums (leb n 2))
  have hf := leb_first n 2 (by decide)
  have hsz : (strOfNums (leb n 2)).size = 2 := by rw [strOfNums_size, leb_length n 2 (by decide)]
  have hm0 : 0 ≤ n % 256 := by omega
  go_enter Tryd.func6, Tryd.ntmps6
  go_wp2_with fail
  go_at_call 10
  refine (newWriter _).mono ?_
  rintro e w1 ⟨rfl, hW, hb1, hz1⟩
  have HW := Lib.hid (show Wrt w1 (w.heap.size + 1) none [] by simpa using hW)
  have HB1 := Lib.hid (show Below w.heap.size w w1 from ((Below.refl _ _).alloc (Nat.le_refl _) _).trans (hb1.mono (by simp)))
  clear hW hb1 hz1
  go_wp2_with fail
  go_at_call 12
  refine (num_ok _ none [] n 2 _ HF.out HW.out (by decide)).mono ?_
  rintro e w2 ⟨rfl, row, hW2, hr2, hfr⟩
  have HB2 := Lib.hid (show Below w.heap.size w w2 from HB1.out.trans ((hfr.below (Nat.le_of_lt HW.out.lt) (fun g hg => by cases hg)).mono (by simp)))
  have HW2 := Lib.hid hW2
  have HG2 := Lib.hid (HG.out.below HB2.out)
  clear hW2 hr2 hfr
  go_wp2_with fail
  go_at_call 18
  refine (code_any _ [] _ HG2.out rfl (by decide)).mono ?_
  rintro e w3 ⟨rfl, hb3⟩
  have HW3 := Lib.hid (HW2.out.below hb3)
  have HB3 := Lib.hid (HB2.out.trans (hb3.mono HB2.out.size))
  have HG3 := Lib.hid (HG2.out.below hb3)
  clear hb3
  go_wp2_with fail
  go_at_call 16
  refine (bytes_any _ _ _ _ HW3.out).mono ?_
  rintro e w4 ⟨rfl, rfl⟩
  simp only [List.nil_append, Int.reduceToNat]
  go_wp2_with fail
  go_at_call 12
  refine (num_bad _ _ _ 1 3 _ (not_fits_three 1) (by decide) HW3.out).mono ?_
  rintro e w5 ⟨v, rfl, hch, hb5⟩
  have HB5 := Lib.hid (HB3.out.trans (hb5.mono HB3.out.size))
  have HG5 := Lib.hid (HG3.out.below hb5)
  have HC := Lib.hid hch
  clear hb5 hch
  go_wp2_with fail
  go_at_call 18
  refine (code_any v [1] _ HG5.out HC.out (by decide)).mono ?_
  rintro e w6 ⟨rfl, hb6⟩
  have HB6 := Lib.hid (HB5.out.trans (hb6.mono HB5.out.size))
  clear hb6
  go_wp2
  go_ret
  exact ⟨rfl, HB6.out⟩
set_option maxRecDepth 100000 in
set_option maxHeartbeats 400000 in
theorem wide4_neg (n k : Int) (w : World) (hg : ErrType w) (h1 : n ≤ 9223372036854775807) (hk0 : 0 ≤ k) (hk1 : k ≤ 255) (hc : k % 4 = 2) (hn : n < 0) :
    Calls Tryd.prog 6 #[.int .i64 n, .int .u8 k] w fun e w' => e = .returned (.bool true) ∧ Below w.heap.size w w' := by
  have HG := Lib.hid hg
  have H1 := Lib.hid h1
  clear hg h1
  have HF := Lib.hid (show ¬ Fits n 4 by unfold Fits; omega)
  go_enter Tryd.func6, Tryd.ntmps6
  go_wp2_with fail
  go_at_call 10
  refine (newWriter _).mono ?_
  rintro e w1 ⟨rfl, hW, hb1, hz1⟩
  have HW := Lib.hid (show Wrt w1 (w.heap.size + 1) none [] by simpa using hW)
  have HB1 := Lib.hid (show Below w.heap.size w w1 from ((Below.refl _ _).alloc (Nat.le_refl _) _).trans (hb1.mono (by simp)))
  clear hW hb1 hz1
  go_wp2_with fail
  go_at_call 12
  refine (num_bad _ none [] n 4 _ HF.out H1.out HW.out).mono ?_
  rintro e w2 ⟨v, rfl, hch, hb2⟩
  have HB2 := Lib.hid (HB1.out.trans (hb2.mono HB1.out.size))
  have HG2 := Lib.hid (HG.out.below HB2.out)
  have HW2 := Lib.hid (HW.out.below hb2)
  have HC := Lib.hid hch
  clear hb2 hch
  go_wp2_with fail
  go_at_call 18
  refine (code_any v [1] _ HG2.out HC.out (by decide)).mono ?_
  rintro e w3 ⟨rfl, hb3⟩
  have HW3 := Lib.hid (HW2.out.below hb3)
  have HB3 := Lib.hid (HB2.out.trans (hb3.mono HB2.out.size))
  clear hb3
  go_wp2_with fail
  go_at_call 16
  refine (bytes_any _ _ _ _ HW3.out).mono ?_
  rintro e w4 ⟨rfl, rfl⟩
  have hemp : (strOfNums []).toList = [] := by rw [ByteArray.toList_eq]; rfl
  go_wp2
  go_ret
  exact ⟨rfl, HB3.out⟩
set_option maxRecDepth 100000 in
set_option maxHeartbeats 400000 in
theorem wide4_big (n k : Int) (w : World) (hg : ErrType w) (h1 : n ≤ 9223372036854775807) (hk0 : 0 ≤ k) (hk1 : k ≤ 255) (hc : k % 4 = 2) (hn : 4294967296 ≤ n) :
    Calls Tryd.prog 6 #[.int .i64 n, .int .u8 k] w fun e w' => e = .returned (.bool true) ∧ Below w.heap.size w w' := by
  have HG := Lib.hid hg
  have H1 := Lib.hid h1
  clear hg h1
  have HF := Lib.hid (show ¬ Fits n 4 by unfold Fits; omega)
  go_enter Tryd.func6, Tryd.ntmps6
  go_wp2_with fail
  go_at_call 10
  refine (newWriter _).mono ?_
  rintro e w1 ⟨rfl, hW, hb1, hz1⟩
  have HW := Lib.hid (show Wrt w1 (w.heap.size + 1) none [] by simpa using hW)
  have HB1 := Lib.hid (show Below w.heap.size w w1 from ((Below.refl _ _).alloc (Nat.le_refl _) _).trans (hb1.mono (by simp)))
  clear hW hb1 hz1
  go_wp2_with fail
  go_at_call 12
  refine (num_bad _ none [] n 4 _ HF.out H1.out HW.out).mono ?_
  rintro e w2 ⟨v, rfl, hch, hb2⟩
  have HB2 := Lib.hid (HB1.out.trans (hb2.mono HB1.out.size))
  have HG2 := Lib.hid (HG.out.below HB2.out)
  have HW2 := Lib.hid (HW.out.below hb2)
  have HC := Lib.hid hch
  clear hb2 hch
  go_wp2_with fail
  go_at_call 18
  refine (code_any v [1] _ HG2.out HC.out (by decide)).mono ?_
  rintro e w3 ⟨rfl, hb3⟩
  have HW3 := Lib.hid (HW2.out.below hb3)
  have HB3 := Lib.hid (HB2.out.trans (hb3.mono HB2.out.size))
  clear hb3
  go_wp2_with fail
  go_at_call 16
  refine (bytes_any _ _ _ _ HW3.out).mono ?_
  rintro e w4 ⟨rfl, rfl⟩
  have hemp : (strOfNums []).toList = [] := by rw [ByteArray.toList_eq]; rfl
  go_wp2
  go_ret
  exact ⟨rfl, HB3.out⟩
set_option maxRecDepth 100000 in
set_option maxHeartbeats 400000 in
theorem wide4_ok (n k : Int) (w : World) (hg : ErrType w) (h1 : n ≤ 9223372036854775807) (hk0 : 0 ≤ k) (hk1 : k ≤ 255) (hc : k % 4 = 2) (hn0 : 0 ≤ n) (hn1 : n < 4294967296) :
    Calls Tryd.prog 6 #[.int .i64 n, .int .u8 k] w fun e w' => e = .returned (.bool true) ∧ Below w.heap.size w w' := by
  have HG := Lib.hid hg
  have H1 := Lib.hid h1
  clear hg h1
  have HF := Lib.hid (show Fits n 4 by have := H1.out; unfold Fits; omega)
  have hbt := get_bt (strOfNums (leb n 4))
  have hf := leb_first n 4 (by decide)
  have hsz : (strOfNums (leb n 4)).size = 4 := by rw [strOfNums_size, leb_length n 4 (by decide)]
  have hm0 : 0 ≤ n % 256 := by omega
  go_enter Tryd.func6, Tryd.ntmps6
  go_wp2_with fail
  go_at_call 10
  refine (newWriter _).mono ?_
  rintro e w1 ⟨rfl, hW, hb1, hz1⟩
  have HW := Lib.hid (show Wrt w1 (w.heap.size + 1) none [] by simpa using hW)
  have HB1 := Lib.hid (show Below w.heap.size w w1 from ((Below.refl _ _).alloc (Nat.le_refl _) _).trans (hb1.mono (by simp)))
  clear hW hb1 hz1
  go_wp2_with fail
  go_at_call 12
  refine (num_ok _ none [] n 4 _ HF.out HW.out (by decide)).mono ?_
  rintro e w2 ⟨rfl, row, hW2, hr2, hfr⟩
  have HB2 := Lib.hid (show Below w.heap.size w w2 from HB1.out.trans ((hfr.below (Nat.le_of_lt HW.out.lt) (fun g hg => by cases hg)).mono (by simp)))
  have HW2 := Lib.hid hW2
  have HG2 := Lib.hid (HG.out.below HB2.out)
  clear hW2 hr2 hfr
  go_wp2_with fail
  go_at_call 18
  refine (code_any _ [] _ HG2.out rfl (by decide)).mono ?_
  rintro e w3 ⟨rfl, hb3⟩
  have HW3 := Lib.hid (HW2.out.below hb3)
  have HB3 := Lib.hid (HB2.out.trans (hb3.mono HB2.out.size))
  have HG3 := Lib.hid (HG2.out.below hb3)
  clear hb3
  go_wp2_with fail
  go_at_call 16
  refine (bytes_any _ _ _ _ HW3.out).mono ?_
  rintro e w4 ⟨rfl, rfl⟩
  simp only [List.nil_append, Int.reduceToNat]
  go_wp2_with fail
  go_at_call 12
  refine (num_bad _ _ _ 1 3 _ (not_fits_three 1) (by decide) HW3.out).mono ?_
  rintro e w5 ⟨v, rfl, hch, hb5⟩
  have HB5 := Lib.hid (HB3.out.trans (hb5.mono HB3.out.size))
  have HG5 := Lib.hid (HG3.out.below hb5)
  have HC := Lib.hid hch
  clear hb5 hch
  go_wp2_with fail
  go_at_call 18
  refine (code_any v [1] _ HG5.out HC.out (by decide)).mono ?_
  rintro e w6 ⟨rfl, hb6⟩
  have HB6 := Lib.hid (HB5.out.trans (hb6.mono HB5.out.size))
  clear hb6
  go_wp2
  go_ret
  exact ⟨rfl, HB6.out⟩
set_option maxRecDepth 100000 in
set_option maxHeartbeats 400000 in
theorem wide8_neg (n k : Int) (w : World) (hg : ErrType w) (h1 : n ≤ 9223372036854775807) (hk0 : 0 ≤ k) (hk1 : k ≤ 255) (hc : k % 4 = 3) (hn : n < 0) :
    Calls Tryd.prog 6 #[.int .i64 n, .int .u8 k] w fun e w' => e = .returned (.bool true) ∧ Below w.heap.size w w' := by
  have HG := Lib.hid hg
  have H1 := Lib.hid h1
  clear hg h1
  have HF := Lib.hid (show ¬ Fits n 8 by unfold Fits; omega)
  go_enter Tryd.func6, Tryd.ntmps6
  go_wp2_with fail
  go_at_call 10
  refine (newWriter _).mono ?_
  rintro e w1 ⟨rfl, hW, hb1, hz1⟩
  have HW := Lib.hid (show Wrt w1 (w.heap.size + 1) none [] by simpa using hW)
  have HB1 := Lib.hid (show Below w.heap.size w w1 from ((Below.refl _ _).alloc (Nat.le_refl _) _).trans (hb1.mono (by simp)))
  clear hW hb1 hz1
  go_wp2_with fail
  go_at_call 12
  refine (num_bad _ none [] n 8 _ HF.out H1.out HW.out).mono ?_
  rintro e w2 ⟨v, rfl, hch, hb2⟩
  have HB2 := Lib.hid (HB1.out.trans (hb2.mono HB1.out.size))
  have HG2 := Lib.hid (HG.out.below HB2.out)
  have HW2 := Lib.hid (HW.out.below hb2)
  have HC := Lib.hid hch
  clear hb2 hch
  go_wp2_with fail
  go_at_call 18
  refine (code_any v [1] _ HG2.out HC.out (by decide)).mono ?_
  rintro e w3 ⟨rfl, hb3⟩
  have HW3 := Lib.hid (HW2.out.below hb3)
  have HB3 := Lib.hid (HB2.out.trans (hb3.mono HB2.out.size))
  clear hb3
  go_wp2_with fail
  go_at_call 16
  refine (bytes_any _ _ _ _ HW3.out).mono ?_
  rintro e w4 ⟨rfl, rfl⟩
  have hemp : (strOfNums []).toList = [] := by rw [ByteArray.toList_eq]; rfl
  go_wp2
  go_ret
  exact ⟨rfl, HB3.out⟩
set_option maxRecDepth 100000 in
set_option maxHeartbeats 400000 in
theorem wide8_ok (n k : Int) (w : World) (hg : ErrType w) (h1 : n ≤ 9223372036854775807) (hk0 : 0 ≤ k) (hk1 : k ≤ 255) (hc : k % 4 = 3) (hn0 : 0 ≤ n) :
    Calls Tryd.prog 6 #[.int .i64 n, .int .u8 k] w fun e w' => e = .returned (.bool true) ∧ Below w.heap.size w w' := by
  have HG := Lib.hid hg
  have H1 := Lib.hid h1
  clear hg h1
  have HF := Lib.hid (show Fits n 8 by have := H1.out; unfold Fits; omega)
  have hbt := get_bt (strOfNums (leb n 8))
  have hf := leb_first n 8 (by decide)
  have hsz : (strOfNums (leb n 8)).size = 8 := by rw [strOfNums_size, leb_length n 8 (by decide)]
  have hm0 : 0 ≤ n % 256 := by omega
  go_enter Tryd.func6, Tryd.ntmps6
  go_wp2_with fail
  go_at_call 10
  refine (newWriter _).mono ?_
  rintro e w1 ⟨rfl, hW, hb1, hz1⟩
  have HW := Lib.hid (show Wrt w1 (w.heap.size + 1) none [] by simpa using hW)
  have HB1 := Lib.hid (show Below w.heap.size w w1 from ((Below.refl _ _).alloc (Nat.le_refl _) _).trans (hb1.mono (by simp)))
  clear hW hb1 hz1
  go_wp2_with fail
  go_at_call 12
  refine (num_ok _ none [] n 8 _ HF.out HW.out (by decide)).mono ?_
  rintro e w2 ⟨rfl, row, hW2, hr2, hfr⟩
  have HB2 := Lib.hid (show Below w.heap.size w w2 from HB1.out.trans ((hfr.below (Nat.le_of_lt HW.out.lt) (fun g hg => by cases hg)).mono (by simp)))
  have HW2 := Lib.hid hW2
  have HG2 := Lib.hid (HG.out.below HB2.out)
  clear hW2 hr2 hfr
  go_wp2_with fail
  go_at_call 18
  refine (code_any _ [] _ HG2.out rfl (by decide)).mono ?_
  rintro e w3 ⟨rfl, hb3⟩
  have HW3 := Lib.hid (HW2.out.below hb3)
  have HB3 := Lib.hid (HB2.out.trans (hb3.mono HB2.out.size))
  have HG3 := Lib.hid (HG2.out.below hb3)
  clear hb3
  go_wp2_with fail
  go_at_call 16
  refine (bytes_any _ _ _ _ HW3.out).mono ?_
  rintro e w4 ⟨rfl, rfl⟩
  simp only [List.nil_append, Int.reduceToNat]
  go_wp2_with fail
  go_at_call 12
  refine (num_bad _ _ _ 1 3 _ (not_fits_three 1) (by decide) HW3.out).mono ?_
  rintro e w5 ⟨v, rfl, hch, hb5⟩
  have HB5 := Lib.hid (HB3.out.trans (hb5.mono HB3.out.size))
  have HG5 := Lib.hid (HG3.out.below hb5)
  have HC := Lib.hid hch
  clear hb5 hch
  go_wp2_with fail
  go_at_call 18
  refine (code_any v [1] _ HG5.out HC.out (by decide)).mono ?_
  rintro e w6 ⟨rfl, hb6⟩
  have HB6 := Lib.hid (HB5.out.trans (hb6.mono HB5.out.size))
  clear hb6
  go_wp2
  go_ret
  exact ⟨rfl, HB6.out⟩
end Go.Proofs.YtionhkcbobddjaaDoor
