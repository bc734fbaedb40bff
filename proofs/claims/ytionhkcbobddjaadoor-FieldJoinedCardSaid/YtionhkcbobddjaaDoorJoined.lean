/-
  FieldJoined, walked: it answers true, and nothing that was there turns.
-/
import Derived.Test.YtionhkcbobddjaaDoorTwo
namespace Go.Proofs.YtionhkcbobddjaaDoor
open Go.RowKit Go.Extern.Stop Go.Stop Go.Extern Go.PlainAid Go.Lib

theorem joined_bound (a b : Int) (s t : ByteArray) (w : World) (hs : 1024 < s.size ∨ 1024 < t.size) :
    Calls Tryd.prog 7 #[.int .i64 a, .int .i64 b, .string s, .string t] w fun e w' => e = .returned (.bool true) ∧ Below w.heap.size w w' := by
  by_cases h1 : 1024 < s.size
  · have hsI : (1024 : Int) < (s.size : Int) := by omega
    go_enter Tryd.func7, Tryd.ntmps7
    go_wp2
    go_ret
    exact ⟨rfl, Below.refl _ _⟩
  · have hsI : (s.size : Int) ≤ 1024 := by omega
    have htI : (1024 : Int) < (t.size : Int) := by omega
    have hd : decide ((1024 : Int) < (s.size : Int)) = false := by simp only [decide_eq_false_iff_not]; omega
    have hd2 : decide ((1024 : Int) < (t.size : Int)) = true := by simp only [decide_eq_true_eq]; omega
    go_enter Tryd.func7, Tryd.ntmps7
    go_wp2
    go_ret
    exact ⟨rfl, Below.refl _ _⟩

set_option maxRecDepth 100000 in
set_option maxHeartbeats 1000000 in
theorem joined_ok_ok (a b : Int) (s t : ByteArray) (w : World) (hg : ErrType w) (hs : s.size ≤ 1024) (ht : t.size ≤ 1024) (ha1 : a ≤ 9223372036854775807) (hbm : b ≤ 9223372036854775807) (ha : 0 ≤ a) (hb0 : 0 ≤ b) (hb1 : b < 4294967296) :
    Calls Tryd.prog 7 #[.int .i64 a, .int .i64 b, .string s, .string t] w fun e w' => e = .returned (.bool true) ∧ Below w.heap.size w w' := by
  have HG := Lib.hid hg
  have hsd : decide ((1024 : Int) < (s.size : Int)) = false := by simp only [decide_eq_false_iff_not]; omega
  have htd : decide ((1024 : Int) < (t.size : Int)) = false := by simp only [decide_eq_false_iff_not]; omega
  have HA1 := Lib.hid ha1
  have HB1 := Lib.hid hbm
  have HFA := Lib.hid (show Fits a 8 by unfold Fits; omega)
  have HFB := Lib.hid (show Fits b 4 by unfold Fits; omega)
  have had : decide ((0 : Int) ≤ a) = true := by simp only [decide_eq_true_eq]; omega
  have hbd : decide ((0 : Int) ≤ b) = true := by simp only [decide_eq_true_eq]; omega
  have hbd2 : decide (b < (4294967296 : Int)) = true := by simp only [decide_eq_true_eq]; omega
  clear hg ha1 hbm
  go_enter Tryd.func7, Tryd.ntmps7
  go_wp2_with fail
  go_at_call 10
  refine (newWriter _).mono ?_
  rintro e w1 ⟨rfl, hW1, hb1, hz1⟩
  have H1 := Lib.hid hW1
  have B1 := Lib.hid hb1
  have Z1 := Lib.hid hz1
  clear hW1 hb1 hz1
  go_wp2_with fail
  go_at_call 10
  refine (newWriter _).mono ?_
  rintro e w2 ⟨rfl, hW2, hb2, hz2⟩
  have T2 := Lib.hid (show Two w2 w.heap.size none [] w1.heap.size none [] from ⟨H1.out.below hb2, hW2, by have := Z1.out; omega, by simp, by simp, by simp⟩)
  have B2 := Lib.hid (B1.out.trans (hb2.mono B1.out.size))
  clear hW2 hb2 hz2 H1
  go_wp2_with fail
  go_at_call 12
  refine (num_ok _ _ _ a 8 _ HFA.out T2.out.1 (by decide)).mono ?_
  rintro e w3 ⟨rfl, row3, hW, hr, hf⟩
  have T3 := Lib.hid (T2.out.step hW hr hf)
  have B3 := Lib.hid (B2.out.trans ((hf.below (Nat.le_of_lt T2.out.1.lt) (fun g hg => (T2.out.1.row_lt hg).1)).mono (Nat.le_refl _)))
  clear hW hr hf
  go_wp2_with fail
  go_at_call 18
  refine (code_any _ [] _ (HG.out.below B3.out) rfl (by decide)).mono ?_
  rintro e w4 ⟨rfl, hb⟩
  have T4 := Lib.hid (T3.out.below hb)
  have B4 := Lib.hid (B3.out.trans (hb.mono B3.out.size))
  clear hb
  go_wp2_with fail
  go_at_call 14
  refine (text_ok _ _ _ s _ hs T4.out.1 (by simp [leb])).mono ?_
  rintro e w5 ⟨rfl, row5, hW, hr, hf⟩
  have T5 := Lib.hid (T4.out.step hW hr hf)
  have B5 := Lib.hid (B4.out.trans ((hf.below (Nat.le_of_lt T4.out.1.lt) (fun g hg => (T4.out.1.row_lt hg).1)).mono (Nat.le_refl _)))
  clear hW hr hf
  go_wp2_with fail
  go_at_call 18
  refine (code_any _ [] _ (HG.out.below B5.out) rfl (by decide)).mono ?_
  rintro e w6 ⟨rfl, hb⟩
  have T6 := Lib.hid (T5.out.below hb)
  have B6 := Lib.hid (B5.out.trans (hb.mono B5.out.size))
  clear hb
  go_wp2_with fail
  go_at_call 12
  refine (num_ok _ _ _ b 4 _ HFB.out T6.out.swap.1 (by decide)).mono ?_
  rintro e w7 ⟨rfl, row7, hW, hr, hf⟩
  have T7 := Lib.hid (T6.out.swap.step hW hr hf)
  have B7 := Lib.hid (B6.out.trans ((hf.below (Nat.le_of_lt T6.out.swap.1.lt) (fun g hg => (T6.out.swap.1.row_lt hg).1)).mono B1.out.size))
  clear hW hr hf
  have T7s := Lib.hid T7.out.swap
  clear T7
  have T7 := T7s
  clear T7s
  go_wp2_with fail
  go_at_call 18
  refine (code_any _ [] _ (HG.out.below B7.out) rfl (by decide)).mono ?_
  rintro e w8 ⟨rfl, hb⟩
  have T8 := Lib.hid (T7.out.below hb)
  have B8 := Lib.hid (B7.out.trans (hb.mono B7.out.size))
  clear hb
  go_wp2_with fail
  go_at_call 14
  refine (text_ok _ _ _ t _ ht T8.out.swap.1 (by simp [leb])).mono ?_
  rintro e w9 ⟨rfl, row9, hW, hr, hf⟩
  have T9 := Lib.hid (T8.out.swap.step hW hr hf)
  have B9 := Lib.hid (B8.out.trans ((hf.below (Nat.le_of_lt T8.out.swap.1.lt) (fun g hg => (T8.out.swap.1.row_lt hg).1)).mono B1.out.size))
  clear hW hr hf
  have T9s := Lib.hid T9.out.swap
  clear T9
  have T9 := T9s
  clear T9s
  go_wp2_with fail
  go_at_call 18
  refine (code_any _ [] _ (HG.out.below B9.out) rfl (by decide)).mono ?_
  rintro e w10 ⟨rfl, hb⟩
  have T10 := Lib.hid (T9.out.below hb)
  have B10 := Lib.hid (B9.out.trans (hb.mono B9.out.size))
  clear hb
  go_wp2_with fail
  go_at_call 16
  refine (bytes_any _ _ _ _ T10.out.1).mono ?_
  rintro e wx ⟨rfl, rfl⟩
  generalize hS1 : strOfNums ([] ++ leb a (Int.toNat 8) ++ leb (s.size : Int) 2 ++ nums s) = S1
  have z1 : S1.size = 0 + 8 + 2 + s.size := by rw [← hS1, strOfNums_size]; simp only [List.length_append, List.length_nil, nums_length, leb_len (s.size : Int) 2 (by decide), leb_len a 8 (by decide), Int.reduceToNat]
  have HS1 := Lib.hid hS1
  have Z1x := Lib.hid z1
  have y1 : S1.size ≤ 2000 := by omega
  clear hS1 z1
  go_wp2_with fail
  go_at_call 16
  refine (bytes_any _ _ _ _ T10.out.swap.1).mono ?_
  rintro e wx ⟨rfl, rfl⟩
  generalize hS2 : strOfNums ([] ++ leb b (Int.toNat 4) ++ leb (t.size : Int) 2 ++ nums t) = S2
  have z2 : S2.size = 0 + 4 + 2 + t.size := by rw [← hS2, strOfNums_size]; simp only [List.length_append, List.length_nil, nums_length, leb_len (t.size : Int) 2 (by decide), leb_len b 4 (by decide), Int.reduceToNat]
  have HS2 := Lib.hid hS2
  have Z2x := Lib.hid z2
  have y2 : S2.size ≤ 2000 := by omega
  clear hS2 z2
  go_wp2_with fail
  go_at_call 19
  generalize hS : S1 ++ S2 = S
  have HS := Lib.hid (show strOfNums (([] ++ leb a (Int.toNat 8) ++ leb (s.size : Int) 2 ++ nums s) ++ ([] ++ leb b (Int.toNat 4) ++ leb (t.size : Int) 2 ++ nums t)) = S by rw [← str_append, HS1.out, HS2.out]; exact hS)
  have HZ := Lib.hid (show S.size = 8 + 2 + s.size + (4 + 2 + t.size) by have h1 := Z1x.out; have h2 := Z2x.out; have h3 := congrArg ByteArray.size hS; rw [ByteArray.size_append] at h3; omega)
  clear hS y1 y2
  refine (newReader S _).mono ?_
  rintro e w11 ⟨rfl, hR, hb, hz⟩
  have R11 := Lib.hid hR
  have V11 := Lib.hid (T10.out.1.below hb)
  have B11 := Lib.hid (B10.out.trans (hb.mono B10.out.size))
  have ZR := Lib.hid B10.out.size
  have Q1 := Lib.hid (show w.heap.size ≠ w10.heap.size from by have := T10.out.1.lt; omega)
  have Q2 := Lib.hid (fun g hg => (show g ≠ w10.heap.size from by have := (T10.out.1.row_lt (g := g) hg).2; omega))
  clear hR hb hz
  go_wp2_with fail
  go_at_call 20
  refine (rnum_at _ (0) (([] : List Int)) (leb (s.size : Int) 2 ++ nums s ++ leb b (Int.toNat 4) ++ leb (t.size : Int) 2 ++ nums t) a 8 S _ (by refine Eq.trans (congrArg strOfNums ?_) HS.out; first | with_reducible rfl | simp only [List.nil_append, List.append_assoc]) (by rfl) HFA.out (((((((((byt_leb _ 2).app (byt_nums s))).app (byt_leb b _))).app (byt_leb _ 2))).app (byt_nums t))) (by have := HZ.out; omega) R11.out).mono ?_
  rintro e w12 ⟨rfl, hR, hf⟩
  have R12 := Lib.hid (show Rdr w12 w10.heap.size S (8) by simpa only [Nat.zero_add, Int.reduceToNat, Nat.add_assoc] using hR)
  have V12 := Lib.hid (V11.out.fr hf Q1.out (by simp) (fun g hg => ⟨Q2.out g hg, by simp⟩))
  have B12 := Lib.hid (B11.out.trans ((hf.below (Nat.le_of_lt R11.out.lt) (fun g hg => by cases hg)).mono ZR.out))
  clear hR hf
  go_wp2_with fail
  go_at_call 18
  refine (code_any _ [] _ (HG.out.below B12.out) rfl (by decide)).mono ?_
  rintro e w13 ⟨rfl, hb⟩
  have R13 := Lib.hid (R12.out.below hb)
  have V13 := Lib.hid (V12.out.below hb)
  have B13 := Lib.hid (B12.out.trans (hb.mono B12.out.size))
  clear hb
  go_wp2_with fail
  go_at_call 22
  refine (rtext_at _ (8) (leb a (Int.toNat 8)) (leb b (Int.toNat 4) ++ leb (t.size : Int) 2 ++ nums t) s S _ (by refine Eq.trans (congrArg strOfNums ?_) HS.out; first | with_reducible rfl | simp only [List.nil_append, List.append_assoc]) (by exact leb_len a 8 (by decide)) hs (((((byt_leb b _).app (byt_leb _ 2))).app (byt_nums t))) (by have := HZ.out; omega) R13.out).mono ?_
  rintro e w14 ⟨rfl, hR, hf⟩
  have R14 := Lib.hid (show Rdr w14 w10.heap.size S (8 + 2 + s.size) by simpa only [Nat.zero_add, Int.reduceToNat, Nat.add_assoc] using hR)
  have V14 := Lib.hid (V13.out.fr hf Q1.out (by simp) (fun g hg => ⟨Q2.out g hg, by simp⟩))
  have B14 := Lib.hid (B13.out.trans ((hf.below (Nat.le_of_lt R13.out.lt) (fun g hg => by cases hg)).mono ZR.out))
  clear hR hf
  go_wp2_with fail
  go_at_call 18
  refine (code_any _ [] _ (HG.out.below B14.out) rfl (by decide)).mono ?_
  rintro e w15 ⟨rfl, hb⟩
  have R15 := Lib.hid (R14.out.below hb)
  have V15 := Lib.hid (V14.out.below hb)
  have B15 := Lib.hid (B14.out.trans (hb.mono B14.out.size))
  clear hb
  go_wp2_with fail
  go_at_call 20
  refine (rnum_at _ (8 + 2 + s.size) (leb a (Int.toNat 8) ++ leb (s.size : Int) 2 ++ nums s) (leb (t.size : Int) 2 ++ nums t) b 4 S _ (by refine Eq.trans (congrArg strOfNums ?_) HS.out; first | with_reducible rfl | simp only [List.nil_append, List.append_assoc]) (by simp only [List.length_append, leb_len a 8 (by decide), leb_len (s.size : Int) 2 (by decide), nums_length s, Int.reduceToNat]) HFB.out (((byt_leb _ 2).app (byt_nums t))) (by have := HZ.out; omega) R15.out).mono ?_
  rintro e w16 ⟨rfl, hR, hf⟩
  have R16 := Lib.hid (show Rdr w16 w10.heap.size S (8 + 2 + s.size + 4) by simpa only [Nat.zero_add, Int.reduceToNat, Nat.add_assoc] using hR)
  have V16 := Lib.hid (V15.out.fr hf Q1.out (by simp) (fun g hg => ⟨Q2.out g hg, by simp⟩))
  have B16 := Lib.hid (B15.out.trans ((hf.below (Nat.le_of_lt R15.out.lt) (fun g hg => by cases hg)).mono ZR.out))
  clear hR hf
  go_wp2_with fail
  go_at_call 18
  refine (code_any _ [] _ (HG.out.below B16.out) rfl (by decide)).mono ?_
  rintro e w17 ⟨rfl, hb⟩
  have R17 := Lib.hid (R16.out.below hb)
  have V17 := Lib.hid (V16.out.below hb)
  have B17 := Lib.hid (B16.out.trans (hb.mono B16.out.size))
  clear hb
  go_wp2_with fail
  go_at_call 22
  refine (rtext_at _ (8 + 2 + s.size + 4) (leb a (Int.toNat 8) ++ leb (s.size : Int) 2 ++ nums s ++ leb b (Int.toNat 4)) (([] : List Int)) t S _ (by refine Eq.trans (congrArg strOfNums ?_) HS.out; first | with_reducible rfl | simp only [List.nil_append, List.append_assoc, List.append_nil]) (by simp only [List.length_append, leb_len a 8 (by decide), leb_len (s.size : Int) 2 (by decide), nums_length s, leb_len b 4 (by decide), Int.reduceToNat]) ht (Byt.nil) (by have := HZ.out; omega) R17.out).mono ?_
  rintro e w18 ⟨rfl, hR, hf⟩
  have R18 := Lib.hid (show Rdr w18 w10.heap.size S (8 + 2 + s.size + 4 + 2 + t.size) by simpa only [Nat.zero_add, Int.reduceToNat, Nat.add_assoc] using hR)
  have V18 := Lib.hid (V17.out.fr hf Q1.out (by simp) (fun g hg => ⟨Q2.out g hg, by simp⟩))
  have B18 := Lib.hid (B17.out.trans ((hf.below (Nat.le_of_lt R17.out.lt) (fun g hg => by cases hg)).mono ZR.out))
  clear hR hf
  go_wp2_with fail
  go_at_call 18
  refine (code_any _ [] _ (HG.out.below B18.out) rfl (by decide)).mono ?_
  rintro e w19 ⟨rfl, hb⟩
  have R19 := Lib.hid (R18.out.below hb)
  have V19 := Lib.hid (V18.out.below hb)
  have B19 := Lib.hid (B18.out.trans (hb.mono B18.out.size))
  clear hb
  have hend : 8 + 2 + s.size + 4 + 2 + t.size = S.size := by have := HZ.out; omega
  have RE := Lib.hid (show Rdr w19 w10.heap.size S S.size by rw [← hend]; exact R19.out)
  clear hend
  go_wp2_with fail
  go_at_call 24
  refine (end_ok _ S _ RE.out (by have := HZ.out; omega)).mono ?_
  rintro e w20 ⟨rfl, hb⟩
  have R20 := Lib.hid (R19.out.below hb)
  have V20 := Lib.hid (V19.out.below hb)
  have B20 := Lib.hid (B19.out.trans (hb.mono B19.out.size))
  clear hb
  go_wp2_with fail
  go_at_call 18
  refine (code_any _ [] _ (HG.out.below B20.out) rfl (by decide)).mono ?_
  rintro e w21 ⟨rfl, hb⟩
  have R21 := Lib.hid (R20.out.below hb)
  have V21 := Lib.hid (V20.out.below hb)
  have B21 := Lib.hid (B20.out.trans (hb.mono B20.out.size))
  clear hb
  go_wp2_with fail
  go_at_call 12
  refine (num_bad _ _ _ 1 3 _ (not_fits3 1) (by decide) V21.out).mono ?_
  rintro e w22 ⟨v, rfl, hc, hb⟩
  have C22 := Lib.hid hc
  have R22 := Lib.hid (R21.out.below hb)
  have V22 := Lib.hid (V21.out.below hb)
  have B22 := Lib.hid (B21.out.trans (hb.mono B21.out.size))
  clear hc hb
  go_wp2_with fail
  go_at_call 18
  refine (code_any v [1] _ (HG.out.below B22.out) C22.out (by decide)).mono ?_
  rintro e w23 ⟨rfl, hb⟩
  have R23 := Lib.hid (R22.out.below hb)
  have V23 := Lib.hid (V22.out.below hb)
  have B23 := Lib.hid (B22.out.trans (hb.mono B22.out.size))
  clear hb
  go_wp2
  go_ret
  exact ⟨rfl, B23.out⟩
set_option maxRecDepth 100000 in
set_option maxHeartbeats 1000000 in
theorem joined_ok_neg (a b : Int) (s t : ByteArray) (w : World) (hg : ErrType w) (hs : s.size ≤ 1024) (ht : t.size ≤ 1024) (ha1 : a ≤ 9223372036854775807) (hbm : b ≤ 9223372036854775807) (ha : 0 ≤ a) (hb0 : b < 0) :
    Calls Tryd.prog 7 #[.int .i64 a, .int .i64 b, .string s, .string t] w fun e w' => e = .returned (.bool true) ∧ Below w.heap.size w w' := by
  have HG := Lib.hid hg
  have hsd : decide ((1024 : Int) < (s.size : Int)) = false := by simp only [decide_eq_false_iff_not]; omega
  have htd : decide ((1024 : Int) < (t.size : Int)) = false := by simp only [decide_eq_false_iff_not]; omega
  have HA1 := Lib.hid ha1
  have HB1 := Lib.hid hbm
  have HFA := Lib.hid (show Fits a 8 by unfold Fits; omega)
  have HFB := Lib.hid (show ¬ Fits b 4 by unfold Fits; omega)
  have had : decide ((0 : Int) ≤ a) = true := by simp only [decide_eq_true_eq]; omega
  have hbd : decide ((0 : Int) ≤ b) = false := by simp only [decide_eq_false_iff_not]; omega
  clear hg ha1 hbm
  go_enter Tryd.func7, Tryd.ntmps7
  go_wp2_with fail
  go_at_call 10
  refine (newWriter _).mono ?_
  rintro e w1 ⟨rfl, hW1, hb1, hz1⟩
  have H1 := Lib.hid hW1
  have B1 := Lib.hid hb1
  have Z1 := Lib.hid hz1
  clear hW1 hb1 hz1
  go_wp2_with fail
  go_at_call 10
  refine (newWriter _).mono ?_
  rintro e w2 ⟨rfl, hW2, hb2, hz2⟩
  have T2 := Lib.hid (show Two w2 w.heap.size none [] w1.heap.size none [] from ⟨H1.out.below hb2, hW2, by have := Z1.out; omega, by simp, by simp, by simp⟩)
  have B2 := Lib.hid (B1.out.trans (hb2.mono B1.out.size))
  clear hW2 hb2 hz2 H1
  go_wp2_with fail
  go_at_call 12
  refine (num_ok _ _ _ a 8 _ HFA.out T2.out.1 (by decide)).mono ?_
  rintro e w3 ⟨rfl, row3, hW, hr, hf⟩
  have T3 := Lib.hid (T2.out.step hW hr hf)
  have B3 := Lib.hid (B2.out.trans ((hf.below (Nat.le_of_lt T2.out.1.lt) (fun g hg => (T2.out.1.row_lt hg).1)).mono (Nat.le_refl _)))
  clear hW hr hf
  go_wp2_with fail
  go_at_call 18
  refine (code_any _ [] _ (HG.out.below B3.out) rfl (by decide)).mono ?_
  rintro e w4 ⟨rfl, hb⟩
  have T4 := Lib.hid (T3.out.below hb)
  have B4 := Lib.hid (B3.out.trans (hb.mono B3.out.size))
  clear hb
  go_wp2_with fail
  go_at_call 14
  refine (text_ok _ _ _ s _ hs T4.out.1 (by simp [leb])).mono ?_
  rintro e w5 ⟨rfl, row5, hW, hr, hf⟩
  have T5 := Lib.hid (T4.out.step hW hr hf)
  have B5 := Lib.hid (B4.out.trans ((hf.below (Nat.le_of_lt T4.out.1.lt) (fun g hg => (T4.out.1.row_lt hg).1)).mono (Nat.le_refl _)))
  clear hW hr hf
  go_wp2_with fail
  go_at_call 18
  refine (code_any _ [] _ (HG.out.below B5.out) rfl (by decide)).mono ?_
  rintro e w6 ⟨rfl, hb⟩
  have T6 := Lib.hid (T5.out.below hb)
  have B6 := Lib.hid (B5.out.trans (hb.mono B5.out.size))
  clear hb
  go_wp2_with fail
  go_at_call 12
  refine (num_bad _ _ _ b 4 _ HFB.out HB1.out T6.out.swap.1).mono ?_
  rintro e w7 ⟨v7, rfl, hc, hb⟩
  have T7 := Lib.hid (T6.out.below hb)
  have C7 := Lib.hid hc
  have B7 := Lib.hid (B6.out.trans (hb.mono B6.out.size))
  clear hc hb
  go_wp2_with fail
  go_at_call 18
  refine (code_any v7 [1] _ (HG.out.below B7.out) C7.out (by decide)).mono ?_
  rintro e w8 ⟨rfl, hb⟩
  have T8 := Lib.hid (T7.out.below hb)
  have B8 := Lib.hid (B7.out.trans (hb.mono B7.out.size))
  clear hb
  go_wp2_with fail
  go_at_call 14
  refine (text_ok _ _ _ t _ ht T8.out.swap.1 (by decide)).mono ?_
  rintro e w9 ⟨rfl, row9, hW, hr, hf⟩
  have T9 := Lib.hid (T8.out.swap.step hW hr hf)
  have B9 := Lib.hid (B8.out.trans ((hf.below (Nat.le_of_lt T8.out.swap.1.lt) (fun g hg => (T8.out.swap.1.row_lt hg).1)).mono B1.out.size))
  clear hW hr hf
  have T9s := Lib.hid T9.out.swap
  clear T9
  have T9 := T9s
  clear T9s
  go_wp2_with fail
  go_at_call 18
  refine (code_any _ [] _ (HG.out.below B9.out) rfl (by decide)).mono ?_
  rintro e w10 ⟨rfl, hb⟩
  have T10 := Lib.hid (T9.out.below hb)
  have B10 := Lib.hid (B9.out.trans (hb.mono B9.out.size))
  clear hb
  go_wp2_with fail
  go_at_call 16
  refine (bytes_any _ _ _ _ T10.out.1).mono ?_
  rintro e wx ⟨rfl, rfl⟩
  generalize hS1 : strOfNums ([] ++ leb a (Int.toNat 8) ++ leb (s.size : Int) 2 ++ nums s) = S1
  have z1 : S1.size = 0 + 8 + 2 + s.size := by rw [← hS1, strOfNums_size]; simp only [List.length_append, List.length_nil, nums_length, leb_len (s.size : Int) 2 (by decide), leb_len a 8 (by decide), Int.reduceToNat]
  have HS1 := Lib.hid hS1
  have Z1x := Lib.hid z1
  have y1 : S1.size ≤ 2000 := by omega
  clear hS1 z1
  go_wp2_with fail
  go_at_call 16
  refine (bytes_any _ _ _ _ T10.out.swap.1).mono ?_
  rintro e wx ⟨rfl, rfl⟩
  generalize hS2 : strOfNums ([] ++ leb (t.size : Int) 2 ++ nums t) = S2
  have z2 : S2.size = 0 + 2 + t.size := by rw [← hS2, strOfNums_size]; simp only [List.length_append, List.length_nil, nums_length, leb_len (t.size : Int) 2 (by decide)]
  have HS2 := Lib.hid hS2
  have Z2x := Lib.hid z2
  have y2 : S2.size ≤ 2000 := by omega
  clear hS2 z2
  go_wp2_with fail
  go_at_call 19
  generalize hS : S1 ++ S2 = S
  have HS := Lib.hid (show strOfNums (([] ++ leb a (Int.toNat 8) ++ leb (s.size : Int) 2 ++ nums s) ++ ([] ++ leb (t.size : Int) 2 ++ nums t)) = S by rw [← str_append, HS1.out, HS2.out]; exact hS)
  have HZ := Lib.hid (show S.size = 8 + 2 + s.size + (2 + t.size) by have h1 := Z1x.out; have h2 := Z2x.out; have h3 := congrArg ByteArray.size hS; rw [ByteArray.size_append] at h3; omega)
  clear hS y1 y2
  refine (newReader S _).mono ?_
  rintro e w11 ⟨rfl, hR, hb, hz⟩
  have R11 := Lib.hid hR
  have V11 := Lib.hid (T10.out.1.below hb)
  have B11 := Lib.hid (B10.out.trans (hb.mono B10.out.size))
  have ZR := Lib.hid B10.out.size
  have Q1 := Lib.hid (show w.heap.size ≠ w10.heap.size from by have := T10.out.1.lt; omega)
  have Q2 := Lib.hid (fun g hg => (show g ≠ w10.heap.size from by have := (T10.out.1.row_lt (g := g) hg).2; omega))
  clear hR hb hz
  go_wp2_with fail
  go_at_call 20
  refine (rnum_at _ (0) (([] : List Int)) (leb (s.size : Int) 2 ++ nums s ++ leb (t.size : Int) 2 ++ nums t) a 8 S _ (by refine Eq.trans (congrArg strOfNums ?_) HS.out; first | with_reducible rfl | simp only [List.nil_append, List.append_assoc]) (by rfl) HFA.out (((((((byt_leb _ 2).app (byt_nums s))).app (byt_leb _ 2))).app (byt_nums t))) (by have := HZ.out; omega) R11.out).mono ?_
  rintro e w12 ⟨rfl, hR, hf⟩
  have R12 := Lib.hid (show Rdr w12 w10.heap.size S (8) by simpa only [Nat.zero_add, Int.reduceToNat, Nat.add_assoc] using hR)
  have V12 := Lib.hid (V11.out.fr hf Q1.out (by simp) (fun g hg => ⟨Q2.out g hg, by simp⟩))
  have B12 := Lib.hid (B11.out.trans ((hf.below (Nat.le_of_lt R11.out.lt) (fun g hg => by cases hg)).mono ZR.out))
  clear hR hf
  go_wp2_with fail
  go_at_call 18
  refine (code_any _ [] _ (HG.out.below B12.out) rfl (by decide)).mono ?_
  rintro e w13 ⟨rfl, hb⟩
  have R13 := Lib.hid (R12.out.below hb)
  have V13 := Lib.hid (V12.out.below hb)
  have B13 := Lib.hid (B12.out.trans (hb.mono B12.out.size))
  clear hb
  go_wp2_with fail
  go_at_call 22
  refine (rtext_at _ (8) (leb a (Int.toNat 8)) (leb (t.size : Int) 2 ++ nums t) s S _ (by refine Eq.trans (congrArg strOfNums ?_) HS.out; first | with_reducible rfl | simp only [List.nil_append, List.append_assoc]) (by exact leb_len a 8 (by decide)) hs (((byt_leb _ 2).app (byt_nums t))) (by have := HZ.out; omega) R13.out).mono ?_
  rintro e w14 ⟨rfl, hR, hf⟩
  have R14 := Lib.hid (show Rdr w14 w10.heap.size S (8 + 2 + s.size) by simpa only [Nat.zero_add, Int.reduceToNat, Nat.add_assoc] using hR)
  have V14 := Lib.hid (V13.out.fr hf Q1.out (by simp) (fun g hg => ⟨Q2.out g hg, by simp⟩))
  have B14 := Lib.hid (B13.out.trans ((hf.below (Nat.le_of_lt R13.out.lt) (fun g hg => by cases hg)).mono ZR.out))
  clear hR hf
  go_wp2_with fail
  go_at_call 18
  refine (code_any _ [] _ (HG.out.below B14.out) rfl (by decide)).mono ?_
  rintro e w15 ⟨rfl, hb⟩
  have R15 := Lib.hid (R14.out.below hb)
  have V15 := Lib.hid (V14.out.below hb)
  have B15 := Lib.hid (B14.out.trans (hb.mono B14.out.size))
  clear hb
  go_wp2_with fail
  go_at_call 22
  refine (rtext_at _ (8 + 2 + s.size) (leb a (Int.toNat 8) ++ leb (s.size : Int) 2 ++ nums s) (([] : List Int)) t S _ (by refine Eq.trans (congrArg strOfNums ?_) HS.out; first | with_reducible rfl | simp only [List.nil_append, List.append_assoc, List.append_nil]) (by simp only [List.length_append, leb_len a 8 (by decide), leb_len (s.size : Int) 2 (by decide), nums_length s, Int.reduceToNat]) ht (Byt.nil) (by have := HZ.out; omega) R15.out).mono ?_
  rintro e w16 ⟨rfl, hR, hf⟩
  have R16 := Lib.hid (show Rdr w16 w10.heap.size S (8 + 2 + s.size + 2 + t.size) by simpa only [Nat.zero_add, Int.reduceToNat, Nat.add_assoc] using hR)
  have V16 := Lib.hid (V15.out.fr hf Q1.out (by simp) (fun g hg => ⟨Q2.out g hg, by simp⟩))
  have B16 := Lib.hid (B15.out.trans ((hf.below (Nat.le_of_lt R15.out.lt) (fun g hg => by cases hg)).mono ZR.out))
  clear hR hf
  go_wp2_with fail
  go_at_call 18
  refine (code_any _ [] _ (HG.out.below B16.out) rfl (by decide)).mono ?_
  rintro e w17 ⟨rfl, hb⟩
  have R17 := Lib.hid (R16.out.below hb)
  have V17 := Lib.hid (V16.out.below hb)
  have B17 := Lib.hid (B16.out.trans (hb.mono B16.out.size))
  clear hb
  have hend : 8 + 2 + s.size + 2 + t.size = S.size := by have := HZ.out; omega
  have RE := Lib.hid (show Rdr w17 w10.heap.size S S.size by rw [← hend]; exact R17.out)
  clear hend
  go_wp2_with fail
  go_at_call 24
  refine (end_ok _ S _ RE.out (by have := HZ.out; omega)).mono ?_
  rintro e w18 ⟨rfl, hb⟩
  have R18 := Lib.hid (R17.out.below hb)
  have V18 := Lib.hid (V17.out.below hb)
  have B18 := Lib.hid (B17.out.trans (hb.mono B17.out.size))
  clear hb
  go_wp2_with fail
  go_at_call 18
  refine (code_any _ [] _ (HG.out.below B18.out) rfl (by decide)).mono ?_
  rintro e w19 ⟨rfl, hb⟩
  have R19 := Lib.hid (R18.out.below hb)
  have V19 := Lib.hid (V18.out.below hb)
  have B19 := Lib.hid (B18.out.trans (hb.mono B18.out.size))
  clear hb
  go_wp2_with fail
  go_at_call 12
  refine (num_bad _ _ _ 1 3 _ (not_fits3 1) (by decide) V19.out).mono ?_
  rintro e w20 ⟨v, rfl, hc, hb⟩
  have C20 := Lib.hid hc
  have R20 := Lib.hid (R19.out.below hb)
  have V20 := Lib.hid (V19.out.below hb)
  have B20 := Lib.hid (B19.out.trans (hb.mono B19.out.size))
  clear hc hb
  go_wp2_with fail
  go_at_call 18
  refine (code_any v [1] _ (HG.out.below B20.out) C20.out (by decide)).mono ?_
  rintro e w21 ⟨rfl, hb⟩
  have R21 := Lib.hid (R20.out.below hb)
  have V21 := Lib.hid (V20.out.below hb)
  have B21 := Lib.hid (B20.out.trans (hb.mono B20.out.size))
  clear hb
  go_wp2
  go_ret
  exact ⟨rfl, B21.out⟩
set_option maxRecDepth 100000 in
set_option maxHeartbeats 1000000 in
theorem joined_ok_big (a b : Int) (s t : ByteArray) (w : World) (hg : ErrType w) (hs : s.size ≤ 1024) (ht : t.size ≤ 1024) (ha1 : a ≤ 9223372036854775807) (hbm : b ≤ 9223372036854775807) (ha : 0 ≤ a) (hb0 : 4294967296 ≤ b) :
    Calls Tryd.prog 7 #[.int .i64 a, .int .i64 b, .string s, .string t] w fun e w' => e = .returned (.bool true) ∧ Below w.heap.size w w' := by
  have HG := Lib.hid hg
  have hsd : decide ((1024 : Int) < (s.size : Int)) = false := by simp only [decide_eq_false_iff_not]; omega
  have htd : decide ((1024 : Int) < (t.size : Int)) = false := by simp only [decide_eq_false_iff_not]; omega
  have HA1 := Lib.hid ha1
  have HB1 := Lib.hid hbm
  have HFA := Lib.hid (show Fits a 8 by unfold Fits; omega)
  have HFB := Lib.hid (show ¬ Fits b 4 by unfold Fits; omega)
  have had : decide ((0 : Int) ≤ a) = true := by simp only [decide_eq_true_eq]; omega
  have hbd : decide ((0 : Int) ≤ b) = true := by simp only [decide_eq_true_eq]; omega
  have hbd2 : decide (b < (4294967296 : Int)) = false := by simp only [decide_eq_false_iff_not]; omega
  clear hg ha1 hbm
  go_enter Tryd.func7, Tryd.ntmps7
  go_wp2_with fail
  go_at_call 10
  refine (newWriter _).mono ?_
  rintro e w1 ⟨rfl, hW1, hb1, hz1⟩
  have H1 := Lib.hid hW1
  have B1 := Lib.hid hb1
  have Z1 := Lib.hid hz1
  clear hW1 hb1 hz1
  go_wp2_with fail
  go_at_call 10
  refine (newWriter _).mono ?_
  rintro e w2 ⟨rfl, hW2, hb2, hz2⟩
  have T2 := Lib.hid (show Two w2 w.heap.size none [] w1.heap.size none [] from ⟨H1.out.below hb2, hW2, by have := Z1.out; omega, by simp, by simp, by simp⟩)
  have B2 := Lib.hid (B1.out.trans (hb2.mono B1.out.size))
  clear hW2 hb2 hz2 H1
  go_wp2_with fail
  go_at_call 12
  refine (num_ok _ _ _ a 8 _ HFA.out T2.out.1 (by decide)).mono ?_
  rintro e w3 ⟨rfl, row3, hW, hr, hf⟩
  have T3 := Lib.hid (T2.out.step hW hr hf)
  have B3 := Lib.hid (B2.out.trans ((hf.below (Nat.le_of_lt T2.out.1.lt) (fun g hg => (T2.out.1.row_lt hg).1)).mono (Nat.le_refl _)))
  clear hW hr hf
  go_wp2_with fail
  go_at_call 18
  refine (code_any _ [] _ (HG.out.below B3.out) rfl (by decide)).mono ?_
  rintro e w4 ⟨rfl, hb⟩
  have T4 := Lib.hid (T3.out.below hb)
  have B4 := Lib.hid (B3.out.trans (hb.mono B3.out.size))
  clear hb
  go_wp2_with fail
  go_at_call 14
  refine (text_ok _ _ _ s _ hs T4.out.1 (by simp [leb])).mono ?_
  rintro e w5 ⟨rfl, row5, hW, hr, hf⟩
  have T5 := Lib.hid (T4.out.step hW hr hf)
  have B5 := Lib.hid (B4.out.trans ((hf.below (Nat.le_of_lt T4.out.1.lt) (fun g hg => (T4.out.1.row_lt hg).1)).mono (Nat.le_refl _)))
  clear hW hr hf
  go_wp2_with fail
  go_at_call 18
  refine (code_any _ [] _ (HG.out.below B5.out) rfl (by decide)).mono ?_
  rintro e w6 ⟨rfl, hb⟩
  have T6 := Lib.hid (T5.out.below hb)
  have B6 := Lib.hid (B5.out.trans (hb.mono B5.out.size))
  clear hb
  go_wp2_with fail
  go_at_call 12
  refine (num_bad _ _ _ b 4 _ HFB.out HB1.out T6.out.swap.1).mono ?_
  rintro e w7 ⟨v7, rfl, hc, hb⟩
  have T7 := Lib.hid (T6.out.below hb)
  have C7 := Lib.hid hc
  have B7 := Lib.hid (B6.out.trans (hb.mono B6.out.size))
  clear hc hb
  go_wp2_with fail
  go_at_call 18
  refine (code_any v7 [1] _ (HG.out.below B7.out) C7.out (by decide)).mono ?_
  rintro e w8 ⟨rfl, hb⟩
  have T8 := Lib.hid (T7.out.below hb)
  have B8 := Lib.hid (B7.out.trans (hb.mono B7.out.size))
  clear hb
  go_wp2_with fail
  go_at_call 14
  refine (text_ok _ _ _ t _ ht T8.out.swap.1 (by decide)).mono ?_
  rintro e w9 ⟨rfl, row9, hW, hr, hf⟩
  have T9 := Lib.hid (T8.out.swap.step hW hr hf)
  have B9 := Lib.hid (B8.out.trans ((hf.below (Nat.le_of_lt T8.out.swap.1.lt) (fun g hg => (T8.out.swap.1.row_lt hg).1)).mono B1.out.size))
  clear hW hr hf
  have T9s := Lib.hid T9.out.swap
  clear T9
  have T9 := T9s
  clear T9s
  go_wp2_with fail
  go_at_call 18
  refine (code_any _ [] _ (HG.out.below B9.out) rfl (by decide)).mono ?_
  rintro e w10 ⟨rfl, hb⟩
  have T10 := Lib.hid (T9.out.below hb)
  have B10 := Lib.hid (B9.out.trans (hb.mono B9.out.size))
  clear hb
  go_wp2_with fail
  go_at_call 16
  refine (bytes_any _ _ _ _ T10.out.1).mono ?_
  rintro e wx ⟨rfl, rfl⟩
  generalize hS1 : strOfNums ([] ++ leb a (Int.toNat 8) ++ leb (s.size : Int) 2 ++ nums s) = S1
  have z1 : S1.size = 0 + 8 + 2 + s.size := by rw [← hS1, strOfNums_size]; simp only [List.length_append, List.length_nil, nums_length, leb_len (s.size : Int) 2 (by decide), leb_len a 8 (by decide), Int.reduceToNat]
  have HS1 := Lib.hid hS1
  have Z1x := Lib.hid z1
  have y1 : S1.size ≤ 2000 := by omega
  clear hS1 z1
  go_wp2_with fail
  go_at_call 16
  refine (bytes_any _ _ _ _ T10.out.swap.1).mono ?_
  rintro e wx ⟨rfl, rfl⟩
  generalize hS2 : strOfNums ([] ++ leb (t.size : Int) 2 ++ nums t) = S2
  have z2 : S2.size = 0 + 2 + t.size := by rw [← hS2, strOfNums_size]; simp only [List.length_append, List.length_nil, nums_length, leb_len (t.size : Int) 2 (by decide)]
  have HS2 := Lib.hid hS2
  have Z2x := Lib.hid z2
  have y2 : S2.size ≤ 2000 := by omega
  clear hS2 z2
  go_wp2_with fail
  go_at_call 19
  generalize hS : S1 ++ S2 = S
  have HS := Lib.hid (show strOfNums (([] ++ leb a (Int.toNat 8) ++ leb (s.size : Int) 2 ++ nums s) ++ ([] ++ leb (t.size : Int) 2 ++ nums t)) = S by rw [← str_append, HS1.out, HS2.out]; exact hS)
  have HZ := Lib.hid (show S.size = 8 + 2 + s.size + (2 + t.size) by have h1 := Z1x.out; have h2 := Z2x.out; have h3 := congrArg ByteArray.size hS; rw [ByteArray.size_append] at h3; omega)
  clear hS y1 y2
  refine (newReader S _).mono ?_
  rintro e w11 ⟨rfl, hR, hb, hz⟩
  have R11 := Lib.hid hR
  have V11 := Lib.hid (T10.out.1.below hb)
  have B11 := Lib.hid (B10.out.trans (hb.mono B10.out.size))
  have ZR := Lib.hid B10.out.size
  have Q1 := Lib.hid (show w.heap.size ≠ w10.heap.size from by have := T10.out.1.lt; omega)
  have Q2 := Lib.hid (fun g hg => (show g ≠ w10.heap.size from by have := (T10.out.1.row_lt (g := g) hg).2; omega))
  clear hR hb hz
  go_wp2_with fail
  go_at_call 20
  refine (rnum_at _ (0) (([] : List Int)) (leb (s.size : Int) 2 ++ nums s ++ leb (t.size : Int) 2 ++ nums t) a 8 S _ (by refine Eq.trans (congrArg strOfNums ?_) HS.out; first | with_reducible rfl | simp only [List.nil_append, List.append_assoc]) (by rfl) HFA.out (((((((byt_leb _ 2).app (byt_nums s))).app (byt_leb _ 2))).app (byt_nums t))) (by have := HZ.out; omega) R11.out).mono ?_
  rintro e w12 ⟨rfl, hR, hf⟩
  have R12 := Lib.hid (show Rdr w12 w10.heap.size S (8) by simpa only [Nat.zero_add, Int.reduceToNat, Nat.add_assoc] using hR)
  have V12 := Lib.hid (V11.out.fr hf Q1.out (by simp) (fun g hg => ⟨Q2.out g hg, by simp⟩))
  have B12 := Lib.hid (B11.out.trans ((hf.below (Nat.le_of_lt R11.out.lt) (fun g hg => by cases hg)).mono ZR.out))
  clear hR hf
  go_wp2_with fail
  go_at_call 18
  refine (code_any _ [] _ (HG.out.below B12.out) rfl (by decide)).mono ?_
  rintro e w13 ⟨rfl, hb⟩
  have R13 := Lib.hid (R12.out.below hb)
  have V13 := Lib.hid (V12.out.below hb)
  have B13 := Lib.hid (B12.out.trans (hb.mono B12.out.size))
  clear hb
  go_wp2_with fail
  go_at_call 22
  refine (rtext_at _ (8) (leb a (Int.toNat 8)) (leb (t.size : Int) 2 ++ nums t) s S _ (by refine Eq.trans (congrArg strOfNums ?_) HS.out; first | with_reducible rfl | simp only [List.nil_append, List.append_assoc]) (by exact leb_len a 8 (by decide)) hs (((byt_leb _ 2).app (byt_nums t))) (by have := HZ.out; omega) R13.out).mono ?_
  rintro e w14 ⟨rfl, hR, hf⟩
  have R14 := Lib.hid (show Rdr w14 w10.heap.size S (8 + 2 + s.size) by simpa only [Nat.zero_add, Int.reduceToNat, Nat.add_assoc] using hR)
  have V14 := Lib.hid (V13.out.fr hf Q1.out (by simp) (fun g hg => ⟨Q2.out g hg, by simp⟩))
  have B14 := Lib.hid (B13.out.trans ((hf.below (Nat.le_of_lt R13.out.lt) (fun g hg => by cases hg)).mono ZR.out))
  clear hR hf
  go_wp2_with fail
  go_at_call 18
  refine (code_any _ [] _ (HG.out.below B14.out) rfl (by decide)).mono ?_
  rintro e w15 ⟨rfl, hb⟩
  have R15 := Lib.hid (R14.out.below hb)
  have V15 := Lib.hid (V14.out.below hb)
  have B15 := Lib.hid (B14.out.trans (hb.mono B14.out.size))
  clear hb
  go_wp2_with fail
  go_at_call 22
  refine (rtext_at _ (8 + 2 + s.size) (leb a (Int.toNat 8) ++ leb (s.size : Int) 2 ++ nums s) (([] : List Int)) t S _ (by refine Eq.trans (congrArg strOfNums ?_) HS.out; first | with_reducible rfl | simp only [List.nil_append, List.append_assoc, List.append_nil]) (by simp only [List.length_append, leb_len a 8 (by decide), leb_len (s.size : Int) 2 (by decide), nums_length s, Int.reduceToNat]) ht (Byt.nil) (by have := HZ.out; omega) R15.out).mono ?_
  rintro e w16 ⟨rfl, hR, hf⟩
  have R16 := Lib.hid (show Rdr w16 w10.heap.size S (8 + 2 + s.size + 2 + t.size) by simpa only [Nat.zero_add, Int.reduceToNat, Nat.add_assoc] using hR)
  have V16 := Lib.hid (V15.out.fr hf Q1.out (by simp) (fun g hg => ⟨Q2.out g hg, by simp⟩))
  have B16 := Lib.hid (B15.out.trans ((hf.below (Nat.le_of_lt R15.out.lt) (fun g hg => by cases hg)).mono ZR.out))
  clear hR hf
  go_wp2_with fail
  go_at_call 18
  refine (code_any _ [] _ (HG.out.below B16.out) rfl (by decide)).mono ?_
  rintro e w17 ⟨rfl, hb⟩
  have R17 := Lib.hid (R16.out.below hb)
  have V17 := Lib.hid (V16.out.below hb)
  have B17 := Lib.hid (B16.out.trans (hb.mono B16.out.size))
  clear hb
  have hend : 8 + 2 + s.size + 2 + t.size = S.size := by have := HZ.out; omega
  have RE := Lib.hid (show Rdr w17 w10.heap.size S S.size by rw [← hend]; exact R17.out)
  clear hend
  go_wp2_with fail
  go_at_call 24
  refine (end_ok _ S _ RE.out (by have := HZ.out; omega)).mono ?_
  rintro e w18 ⟨rfl, hb⟩
  have R18 := Lib.hid (R17.out.below hb)
  have V18 := Lib.hid (V17.out.below hb)
  have B18 := Lib.hid (B17.out.trans (hb.mono B17.out.size))
  clear hb
  go_wp2_with fail
  go_at_call 18
  refine (code_any _ [] _ (HG.out.below B18.out) rfl (by decide)).mono ?_
  rintro e w19 ⟨rfl, hb⟩
  have R19 := Lib.hid (R18.out.below hb)
  have V19 := Lib.hid (V18.out.below hb)
  have B19 := Lib.hid (B18.out.trans (hb.mono B18.out.size))
  clear hb
  go_wp2_with fail
  go_at_call 12
  refine (num_bad _ _ _ 1 3 _ (not_fits3 1) (by decide) V19.out).mono ?_
  rintro e w20 ⟨v, rfl, hc, hb⟩
  have C20 := Lib.hid hc
  have R20 := Lib.hid (R19.out.below hb)
  have V20 := Lib.hid (V19.out.below hb)
  have B20 := Lib.hid (B19.out.trans (hb.mono B19.out.size))
  clear hc hb
  go_wp2_with fail
  go_at_call 18
  refine (code_any v [1] _ (HG.out.below B20.out) C20.out (by decide)).mono ?_
  rintro e w21 ⟨rfl, hb⟩
  have R21 := Lib.hid (R20.out.below hb)
  have V21 := Lib.hid (V20.out.below hb)
  have B21 := Lib.hid (B20.out.trans (hb.mono B20.out.size))
  clear hb
  go_wp2
  go_ret
  exact ⟨rfl, B21.out⟩
set_option maxRecDepth 100000 in
set_option maxHeartbeats 1000000 in
theorem joined_neg_ok (a b : Int) (s t : ByteArray) (w : World) (hg : ErrType w) (hs : s.size ≤ 1024) (ht : t.size ≤ 1024) (ha1 : a ≤ 9223372036854775807) (hbm : b ≤ 9223372036854775807) (ha : a < 0) (hb0 : 0 ≤ b) (hb1 : b < 4294967296) :
    Calls Tryd.prog 7 #[.int .i64 a, .int .i64 b, .string s, .string t] w fun e w' => e = .returned (.bool true) ∧ Below w.heap.size w w' := by
  have HG := Lib.hid hg
  have hsd : decide ((1024 : Int) < (s.size : Int)) = false := by simp only [decide_eq_false_iff_not]; omega
  have htd : decide ((1024 : Int) < (t.size : Int)) = false := by simp only [decide_eq_false_iff_not]; omega
  have HA1 := Lib.hid ha1
  have HB1 := Lib.hid hbm
  have HFA := Lib.hid (show ¬ Fits a 8 by unfold Fits; omega)
  have HFB := Lib.hid (show Fits b 4 by unfold Fits; omega)
  have had : decide ((0 : Int) ≤ a) = false := by simp only [decide_eq_false_iff_not]; omega
  have hbd : decide ((0 : Int) ≤ b) = true := by simp only [decide_eq_true_eq]; omega
  have hbd2 : decide (b < (4294967296 : Int)) = true := by simp only [decide_eq_true_eq]; omega
  clear hg ha1 hbm
  go_enter Tryd.func7, Tryd.ntmps7
  go_wp2_with fail
  go_at_call 10
  refine (newWriter _).mono ?_
  rintro e w1 ⟨rfl, hW1, hb1, hz1⟩
  have H1 := Lib.hid hW1
  have B1 := Lib.hid hb1
  have Z1 := Lib.hid hz1
  clear hW1 hb1 hz1
  go_wp2_with fail
  go_at_call 10
  refine (newWriter _).mono ?_
  rintro e w2 ⟨rfl, hW2, hb2, hz2⟩
  have T2 := Lib.hid (show Two w2 w.heap.size none [] w1.heap.size none [] from ⟨H1.out.below hb2, hW2, by have := Z1.out; omega, by simp, by simp, by simp⟩)
  have B2 := Lib.hid (B1.out.trans (hb2.mono B1.out.size))
  clear hW2 hb2 hz2 H1
  go_wp2_with fail
  go_at_call 12
  refine (num_bad _ _ _ a 8 _ HFA.out HA1.out T2.out.1).mono ?_
  rintro e w3 ⟨v3, rfl, hc, hb⟩
  have T3 := Lib.hid (T2.out.below hb)
  have C3 := Lib.hid hc
  have B3 := Lib.hid (B2.out.trans (hb.mono B2.out.size))
  clear hc hb
  go_wp2_with fail
  go_at_call 18
  refine (code_any v3 [1] _ (HG.out.below B3.out) C3.out (by decide)).mono ?_
  rintro e w4 ⟨rfl, hb⟩
  have T4 := Lib.hid (T3.out.below hb)
  have B4 := Lib.hid (B3.out.trans (hb.mono B3.out.size))
  clear hb
  go_wp2_with fail
  go_at_call 14
  refine (text_ok _ _ _ s _ hs T4.out.1 (by decide)).mono ?_
  rintro e w5 ⟨rfl, row5, hW, hr, hf⟩
  have T5 := Lib.hid (T4.out.step hW hr hf)
  have B5 := Lib.hid (B4.out.trans ((hf.below (Nat.le_of_lt T4.out.1.lt) (fun g hg => (T4.out.1.row_lt hg).1)).mono (Nat.le_refl _)))
  clear hW hr hf
  go_wp2_with fail
  go_at_call 18
  refine (code_any _ [] _ (HG.out.below B5.out) rfl (by decide)).mono ?_
  rintro e w6 ⟨rfl, hb⟩
  have T6 := Lib.hid (T5.out.below hb)
  have B6 := Lib.hid (B5.out.trans (hb.mono B5.out.size))
  clear hb
  go_wp2_with fail
  go_at_call 12
  refine (num_ok _ _ _ b 4 _ HFB.out T6.out.swap.1 (by decide)).mono ?_
  rintro e w7 ⟨rfl, row7, hW, hr, hf⟩
  have T7 := Lib.hid (T6.out.swap.step hW hr hf)
  have B7 := Lib.hid (B6.out.trans ((hf.below (Nat.le_of_lt T6.out.swap.1.lt) (fun g hg => (T6.out.swap.1.row_lt hg).1)).mono B1.out.size))
  clear hW hr hf
  have T7s := Lib.hid T7.out.swap
  clear T7
  have T7 := T7s
  clear T7s
  go_wp2_with fail
  go_at_call 18
  refine (code_any _ [] _ (HG.out.below B7.out) rfl (by decide)).mono ?_
  rintro e w8 ⟨rfl, hb⟩
  have T8 := Lib.hid (T7.out.below hb)
  have B8 := Lib.hid (B7.out.trans (hb.mono B7.out.size))
  clear hb
  go_wp2_with fail
  go_at_call 14
  refine (text_ok _ _ _ t _ ht T8.out.swap.1 (by simp [leb])).mono ?_
  rintro e w9 ⟨rfl, row9, hW, hr, hf⟩
  have T9 := Lib.hid (T8.out.swap.step hW hr hf)
  have B9 := Lib.hid (B8.out.trans ((hf.below (Nat.le_of_lt T8.out.swap.1.lt) (fun g hg => (T8.out.swap.1.row_lt hg).1)).mono B1.out.size))
  clear hW hr hf
  have T9s := Lib.hid T9.out.swap
  clear T9
  have T9 := T9s
  clear T9s
  go_wp2_with fail
  go_at_call 18
  refine (code_any _ [] _ (HG.out.below B9.out) rfl (by decide)).mono ?_
  rintro e w10 ⟨rfl, hb⟩
  have T10 := Lib.hid (T9.out.below hb)
  have B10 := Lib.hid (B9.out.trans (hb.mono B9.out.size))
  clear hb
  go_wp2_with fail
  go_at_call 16
  refine (bytes_any _ _ _ _ T10.out.1).mono ?_
  rintro e wx ⟨rfl, rfl⟩
  generalize hS1 : strOfNums ([] ++ leb (s.size : Int) 2 ++ nums s) = S1
  have z1 : S1.size = 0 + 2 + s.size := by rw [← hS1, strOfNums_size]; simp only [List.length_append, List.length_nil, nums_length, leb_len (s.size : Int) 2 (by decide)]
  have HS1 := Lib.hid hS1
  have Z1x := Lib.hid z1
  have y1 : S1.size ≤ 2000 := by omega
  clear hS1 z1
  go_wp2_with fail
  go_at_call 16
  refine (bytes_any _ _ _ _ T10.out.swap.1).mono ?_
  rintro e wx ⟨rfl, rfl⟩
  generalize hS2 : strOfNums ([] ++ leb b (Int.toNat 4) ++ leb (t.size : Int) 2 ++ nums t) = S2
  have z2 : S2.size = 0 + 4 + 2 + t.size := by rw [← hS2, strOfNums_size]; simp only [List.length_append, List.length_nil, nums_length, leb_len (t.size : Int) 2 (by decide), leb_len b 4 (by decide), Int.reduceToNat]
  have HS2 := Lib.hid hS2
  have Z2x := Lib.hid z2
  have y2 : S2.size ≤ 2000 := by omega
  clear hS2 z2
  go_wp2_with fail
  go_at_call 19
  generalize hS : S1 ++ S2 = S
  have HS := Lib.hid (show strOfNums (([] ++ leb (s.size : Int) 2 ++ nums s) ++ ([] ++ leb b (Int.toNat 4) ++ leb (t.size : Int) 2 ++ nums t)) = S by rw [← str_append, HS1.out, HS2.out]; exact hS)
  have HZ := Lib.hid (show S.size = 2 + s.size + (4 + 2 + t.size) by have h1 := Z1x.out; have h2 := Z2x.out; have h3 := congrArg ByteArray.size hS; rw [ByteArray.size_append] at h3; omega)
  clear hS y1 y2
  refine (newReader S _).mono ?_
  rintro e w11 ⟨rfl, hR, hb, hz⟩
  have R11 := Lib.hid hR
  have V11 := Lib.hid (T10.out.1.below hb)
  have B11 := Lib.hid (B10.out.trans (hb.mono B10.out.size))
  have ZR := Lib.hid B10.out.size
  have Q1 := Lib.hid (show w.heap.size ≠ w10.heap.size from by have := T10.out.1.lt; omega)
  have Q2 := Lib.hid (fun g hg => (show g ≠ w10.heap.size from by have := (T10.out.1.row_lt (g := g) hg).2; omega))
  clear hR hb hz
  go_wp2_with fail
  go_at_call 22
  refine (rtext_at _ (0) (([] : List Int)) (leb b (Int.toNat 4) ++ leb (t.size : Int) 2 ++ nums t) s S _ (by refine Eq.trans (congrArg strOfNums ?_) HS.out; first | with_reducible rfl | simp only [List.nil_append, List.append_assoc]) (by rfl) hs (((((byt_leb b _).app (byt_leb _ 2))).app (byt_nums t))) (by have := HZ.out; omega) R11.out).mono ?_
  rintro e w12 ⟨rfl, hR, hf⟩
  have R12 := Lib.hid (show Rdr w12 w10.heap.size S (2 + s.size) by simpa only [Nat.zero_add, Int.reduceToNat, Nat.add_assoc] using hR)
  have V12 := Lib.hid (V11.out.fr hf Q1.out (by simp) (fun g hg => ⟨Q2.out g hg, by simp⟩))
  have B12 := Lib.hid (B11.out.trans ((hf.below (Nat.le_of_lt R11.out.lt) (fun g hg => by cases hg)).mono ZR.out))
  clear hR hf
  go_wp2_with fail
  go_at_call 18
  refine (code_any _ [] _ (HG.out.below B12.out) rfl (by decide)).mono ?_
  rintro e w13 ⟨rfl, hb⟩
  have R13 := Lib.hid (R12.out.below hb)
  have V13 := Lib.hid (V12.out.below hb)
  have B13 := Lib.hid (B12.out.trans (hb.mono B12.out.size))
  clear hb
  go_wp2_with fail
  go_at_call 20
  refine (rnum_at _ (2 + s.size) (leb (s.size : Int) 2 ++ nums s) (leb (t.size : Int) 2 ++ nums t) b 4 S _ (by refine Eq.trans (congrArg strOfNums ?_) HS.out; first | with_reducible rfl | simp only [List.nil_append, List.append_assoc]) (by simp only [List.length_append, leb_len (s.size : Int) 2 (by decide), nums_length s]) HFB.out (((byt_leb _ 2).app (byt_nums t))) (by have := HZ.out; omega) R13.out).mono ?_
  rintro e w14 ⟨rfl, hR, hf⟩
  have R14 := Lib.hid (show Rdr w14 w10.heap.size S (2 + s.size + 4) by simpa only [Nat.zero_add, Int.reduceToNat, Nat.add_assoc] using hR)
  have V14 := Lib.hid (V13.out.fr hf Q1.out (by simp) (fun g hg => ⟨Q2.out g hg, by simp⟩))
  have B14 := Lib.hid (B13.out.trans ((hf.below (Nat.le_of_lt R13.out.lt) (fun g hg => by cases hg)).mono ZR.out))
  clear hR hf
  go_wp2_with fail
  go_at_call 18
  refine (code_any _ [] _ (HG.out.below B14.out) rfl (by decide)).mono ?_
  rintro e w15 ⟨rfl, hb⟩
  have R15 := Lib.hid (R14.out.below hb)
  have V15 := Lib.hid (V14.out.below hb)
  have B15 := Lib.hid (B14.out.trans (hb.mono B14.out.size))
  clear hb
  go_wp2_with fail
  go_at_call 22
  refine (rtext_at _ (2 + s.size + 4) (leb (s.size : Int) 2 ++ nums s ++ leb b (Int.toNat 4)) (([] : List Int)) t S _ (by refine Eq.trans (congrArg strOfNums ?_) HS.out; first | with_reducible rfl | simp only [List.nil_append, List.append_assoc, List.append_nil]) (by simp only [List.length_append, leb_len (s.size : Int) 2 (by decide), nums_length s, leb_len b 4 (by decide), Int.reduceToNat]) ht (Byt.nil) (by have := HZ.out; omega) R15.out).mono ?_
  rintro e w16 ⟨rfl, hR, hf⟩
  have R16 := Lib.hid (show Rdr w16 w10.heap.size S (2 + s.size + 4 + 2 + t.size) by simpa only [Nat.zero_add, Int.reduceToNat, Nat.add_assoc] using hR)
  have V16 := Lib.hid (V15.out.fr hf Q1.out (by simp) (fun g hg => ⟨Q2.out g hg, by simp⟩))
  have B16 := Lib.hid (B15.out.trans ((hf.below (Nat.le_of_lt R15.out.lt) (fun g hg => by cases hg)).mono ZR.out))
  clear hR hf
  go_wp2_with fail
  go_at_call 18
  refine (code_any _ [] _ (HG.out.below B16.out) rfl (by decide)).mono ?_
  rintro e w17 ⟨rfl, hb⟩
  have R17 := Lib.hid (R16.out.below hb)
  have V17 := Lib.hid (V16.out.below hb)
  have B17 := Lib.hid (B16.out.trans (hb.mono B16.out.size))
  clear hb
  have hend : 2 + s.size + 4 + 2 + t.size = S.size := by have := HZ.out; omega
  have RE := Lib.hid (show Rdr w17 w10.heap.size S S.size by rw [← hend]; exact R17.out)
  clear hend
  go_wp2_with fail
  go_at_call 24
  refine (end_ok _ S _ RE.out (by have := HZ.out; omega)).mono ?_
  rintro e w18 ⟨rfl, hb⟩
  have R18 := Lib.hid (R17.out.below hb)
  have V18 := Lib.hid (V17.out.below hb)
  have B18 := Lib.hid (B17.out.trans (hb.mono B17.out.size))
  clear hb
  go_wp2_with fail
  go_at_call 18
  refine (code_any _ [] _ (HG.out.below B18.out) rfl (by decide)).mono ?_
  rintro e w19 ⟨rfl, hb⟩
  have R19 := Lib.hid (R18.out.below hb)
  have V19 := Lib.hid (V18.out.below hb)
  have B19 := Lib.hid (B18.out.trans (hb.mono B18.out.size))
  clear hb
  go_wp2_with fail
  go_at_call 12
  refine (num_bad _ _ _ 1 3 _ (not_fits3 1) (by decide) V19.out).mono ?_
  rintro e w20 ⟨v, rfl, hc, hb⟩
  have C20 := Lib.hid hc
  have R20 := Lib.hid (R19.out.below hb)
  have V20 := Lib.hid (V19.out.below hb)
  have B20 := Lib.hid (B19.out.trans (hb.mono B19.out.size))
  clear hc hb
  go_wp2_with fail
  go_at_call 18
  refine (code_any v [1] _ (HG.out.below B20.out) C20.out (by decide)).mono ?_
  rintro e w21 ⟨rfl, hb⟩
  have R21 := Lib.hid (R20.out.below hb)
  have V21 := Lib.hid (V20.out.below hb)
  have B21 := Lib.hid (B20.out.trans (hb.mono B20.out.size))
  clear hb
  go_wp2
  go_ret
  exact ⟨rfl, B21.out⟩
set_option maxRecDepth 100000 in
set_option maxHeartbeats 1000000 in
theorem joined_neg_neg (a b : Int) (s t : ByteArray) (w : World) (hg : ErrType w) (hs : s.size ≤ 1024) (ht : t.size ≤ 1024) (ha1 : a ≤ 9223372036854775807) (hbm : b ≤ 9223372036854775807) (ha : a < 0) (hb0 : b < 0) :
    Calls Tryd.prog 7 #[.int .i64 a, .int .i64 b, .string s, .string t] w fun e w' => e = .returned (.bool true) ∧ Below w.heap.size w w' := by
  have HG := Lib.hid hg
  have hsd : decide ((1024 : Int) < (s.size : Int)) = false := by simp only [decide_eq_false_iff_not]; omega
  have htd : decide ((1024 : Int) < (t.size : Int)) = false := by simp only [decide_eq_false_iff_not]; omega
  have HA1 := Lib.hid ha1
  have HB1 := Lib.hid hbm
  have HFA := Lib.hid (show ¬ Fits a 8 by unfold Fits; omega)
  have HFB := Lib.hid (show ¬ Fits b 4 by unfold Fits; omega)
  have had : decide ((0 : Int) ≤ a) = false := by simp only [decide_eq_false_iff_not]; omega
  have hbd : decide ((0 : Int) ≤ b) = false := by simp only [decide_eq_false_iff_not]; omega
  clear hg ha1 hbm
  go_enter Tryd.func7, Tryd.ntmps7
  go_wp2_with fail
  go_at_call 10
  refine (newWriter _).mono ?_
  rintro e w1 ⟨rfl, hW1, hb1, hz1⟩
  have H1 := Lib.hid hW1
  have B1 := Lib.hid hb1
  have Z1 := Lib.hid hz1
  clear hW1 hb1 hz1
  go_wp2_with fail
  go_at_call 10
  refine (newWriter _).mono ?_
  rintro e w2 ⟨rfl, hW2, hb2, hz2⟩
  have T2 := Lib.hid (show Two w2 w.heap.size none [] w1.heap.size none [] from ⟨H1.out.below hb2, hW2, by have := Z1.out; omega, by simp, by simp, by simp⟩)
  have B2 := Lib.hid (B1.out.trans (hb2.mono B1.out.size))
  clear hW2 hb2 hz2 H1
  go_wp2_with fail
  go_at_call 12
  refine (num_bad _ _ _ a 8 _ HFA.out HA1.out T2.out.1).mono ?_
  rintro e w3 ⟨v3, rfl, hc, hb⟩
  have T3 := Lib.hid (T2.out.below hb)
  have C3 := Lib.hid hc
  have B3 := Lib.hid (B2.out.trans (hb.mono B2.out.size))
  clear hc hb
  go_wp2_with fail
  go_at_call 18
  refine (code_any v3 [1] _ (HG.out.below B3.out) C3.out (by decide)).mono ?_
  rintro e w4 ⟨rfl, hb⟩
  have T4 := Lib.hid (T3.out.below hb)
  have B4 := Lib.hid (B3.out.trans (hb.mono B3.out.size))
  clear hb
  go_wp2_with fail
  go_at_call 14
  refine (text_ok _ _ _ s _ hs T4.out.1 (by decide)).mono ?_
  rintro e w5 ⟨rfl, row5, hW, hr, hf⟩
  have T5 := Lib.hid (T4.out.step hW hr hf)
  have B5 := Lib.hid (B4.out.trans ((hf.below (Nat.le_of_lt T4.out.1.lt) (fun g hg => (T4.out.1.row_lt hg).1)).mono (Nat.le_refl _)))
  clear hW hr hf
  go_wp2_with fail
  go_at_call 18
  refine (code_any _ [] _ (HG.out.below B5.out) rfl (by decide)).mono ?_
  rintro e w6 ⟨rfl, hb⟩
  have T6 := Lib.hid (T5.out.below hb)
  have B6 := Lib.hid (B5.out.trans (hb.mono B5.out.size))
  clear hb
  go_wp2_with fail
  go_at_call 12
  refine (num_bad _ _ _ b 4 _ HFB.out HB1.out T6.out.swap.1).mono ?_
  rintro e w7 ⟨v7, rfl, hc, hb⟩
  have T7 := Lib.hid (T6.out.below hb)
  have C7 := Lib.hid hc
  have B7 := Lib.hid (B6.out.trans (hb.mono B6.out.size))
  clear hc hb
  go_wp2_with fail
  go_at_call 18
  refine (code_any v7 [1] _ (HG.out.below B7.out) C7.out (by decide)).mono ?_
  rintro e w8 ⟨rfl, hb⟩
  have T8 := Lib.hid (T7.out.below hb)
  have B8 := Lib.hid (B7.out.trans (hb.mono B7.out.size))
  clear hb
  go_wp2_with fail
  go_at_call 14
  refine (text_ok _ _ _ t _ ht T8.out.swap.1 (by decide)).mono ?_
  rintro e w9 ⟨rfl, row9, hW, hr, hf⟩
  have T9 := Lib.hid (T8.out.swap.step hW hr hf)
  have B9 := Lib.hid (B8.out.trans ((hf.below (Nat.le_of_lt T8.out.swap.1.lt) (fun g hg => (T8.out.swap.1.row_lt hg).1)).mono B1.out.size))
  clear hW hr hf
  have T9s := Lib.hid T9.out.swap
  clear T9
  have T9 := T9s
  clear T9s
  go_wp2_with fail
  go_at_call 18
  refine (code_any _ [] _ (HG.out.below B9.out) rfl (by decide)).mono ?_
  rintro e w10 ⟨rfl, hb⟩
  have T10 := Lib.hid (T9.out.below hb)
  have B10 := Lib.hid (B9.out.trans (hb.mono B9.out.size))
  clear hb
  go_wp2_with fail
  go_at_call 16
  refine (bytes_any _ _ _ _ T10.out.1).mono ?_
  rintro e wx ⟨rfl, rfl⟩
  generalize hS1 : strOfNums ([] ++ leb (s.size : Int) 2 ++ nums s) = S1
  have z1 : S1.size = 0 + 2 + s.size := by rw [← hS1, strOfNums_size]; simp only [List.length_append, List.length_nil, nums_length, leb_len (s.size : Int) 2 (by decide)]
  have HS1 := Lib.hid hS1
  have Z1x := Lib.hid z1
  have y1 : S1.size ≤ 2000 := by omega
  clear hS1 z1
  go_wp2_with fail
  go_at_call 16
  refine (bytes_any _ _ _ _ T10.out.swap.1).mono ?_
  rintro e wx ⟨rfl, rfl⟩
  generalize hS2 : strOfNums ([] ++ leb (t.size : Int) 2 ++ nums t) = S2
  have z2 : S2.size = 0 + 2 + t.size := by rw [← hS2, strOfNums_size]; simp only [List.length_append, List.length_nil, nums_length, leb_len (t.size : Int) 2 (by decide)]
  have HS2 := Lib.hid hS2
  have Z2x := Lib.hid z2
  have y2 : S2.size ≤ 2000 := by omega
  clear hS2 z2
  go_wp2_with fail
  go_at_call 19
  generalize hS : S1 ++ S2 = S
  have HS := Lib.hid (show strOfNums (([] ++ leb (s.size : Int) 2 ++ nums s) ++ ([] ++ leb (t.size : Int) 2 ++ nums t)) = S by rw [← str_append, HS1.out, HS2.out]; exact hS)
  have HZ := Lib.hid (show S.size = 2 + s.size + (2 + t.size) by have h1 := Z1x.out; have h2 := Z2x.out; have h3 := congrArg ByteArray.size hS; rw [ByteArray.size_append] at h3; omega)
  clear hS y1 y2
  refine (newReader S _).mono ?_
  rintro e w11 ⟨rfl, hR, hb, hz⟩
  have R11 := Lib.hid hR
  have V11 := Lib.hid (T10.out.1.below hb)
  have B11 := Lib.hid (B10.out.trans (hb.mono B10.out.size))
  have ZR := Lib.hid B10.out.size
  have Q1 := Lib.hid (show w.heap.size ≠ w10.heap.size from by have := T10.out.1.lt; omega)
  have Q2 := Lib.hid (fun g hg => (show g ≠ w10.heap.size from by have := (T10.out.1.row_lt (g := g) hg).2; omega))
  clear hR hb hz
  go_wp2_with fail
  go_at_call 22
  refine (rtext_at _ (0) (([] : List Int)) (leb (t.size : Int) 2 ++ nums t) s S _ (by refine Eq.trans (congrArg strOfNums ?_) HS.out; first | with_reducible rfl | simp only [List.nil_append, List.append_assoc]) (by rfl) hs (((byt_leb _ 2).app (byt_nums t))) (by have := HZ.out; omega) R11.out).mono ?_
  rintro e w12 ⟨rfl, hR, hf⟩
  have R12 := Lib.hid (show Rdr w12 w10.heap.size S (2 + s.size) by simpa only [Nat.zero_add, Int.reduceToNat, Nat.add_assoc] using hR)
  have V12 := Lib.hid (V11.out.fr hf Q1.out (by simp) (fun g hg => ⟨Q2.out g hg, by simp⟩))
  have B12 := Lib.hid (B11.out.trans ((hf.below (Nat.le_of_lt R11.out.lt) (fun g hg => by cases hg)).mono ZR.out))
  clear hR hf
  go_wp2_with fail
  go_at_call 18
  refine (code_any _ [] _ (HG.out.below B12.out) rfl (by decide)).mono ?_
  rintro e w13 ⟨rfl, hb⟩
  have R13 := Lib.hid (R12.out.below hb)
  have V13 := Lib.hid (V12.out.below hb)
  have B13 := Lib.hid (B12.out.trans (hb.mono B12.out.size))
  clear hb
  go_wp2_with fail
  go_at_call 22
  refine (rtext_at _ (2 + s.size) (leb (s.size : Int) 2 ++ nums s) (([] : List Int)) t S _ (by refine Eq.trans (congrArg strOfNums ?_) HS.out; first | with_reducible rfl | simp only [List.nil_append, List.append_assoc, List.append_nil]) (by simp only [List.length_append, leb_len (s.size : Int) 2 (by decide), nums_length s]) ht (Byt.nil) (by have := HZ.out; omega) R13.out).mono ?_
  rintro e w14 ⟨rfl, hR, hf⟩
  have R14 := Lib.hid (show Rdr w14 w10.heap.size S (2 + s.size + 2 + t.size) by simpa only [Nat.zero_add, Int.reduceToNat, Nat.add_assoc] using hR)
  have V14 := Lib.hid (V13.out.fr hf Q1.out (by simp) (fun g hg => ⟨Q2.out g hg, by simp⟩))
  have B14 := Lib.hid (B13.out.trans ((hf.below (Nat.le_of_lt R13.out.lt) (fun g hg => by cases hg)).mono ZR.out))
  clear hR hf
  go_wp2_with fail
  go_at_call 18
  refine (code_any _ [] _ (HG.out.below B14.out) rfl (by decide)).mono ?_
  rintro e w15 ⟨rfl, hb⟩
  have R15 := Lib.hid (R14.out.below hb)
  have V15 := Lib.hid (V14.out.below hb)
  have B15 := Lib.hid (B14.out.trans (hb.mono B14.out.size))
  clear hb
  have hend : 2 + s.size + 2 + t.size = S.size := by have := HZ.out; omega
  have RE := Lib.hid (show Rdr w15 w10.heap.size S S.size by rw [← hend]; exact R15.out)
  clear hend
  go_wp2_with fail
  go_at_call 24
  refine (end_ok _ S _ RE.out (by have := HZ.out; omega)).mono ?_
  rintro e w16 ⟨rfl, hb⟩
  have R16 := Lib.hid (R15.out.below hb)
  have V16 := Lib.hid (V15.out.below hb)
  have B16 := Lib.hid (B15.out.trans (hb.mono B15.out.size))
  clear hb
  go_wp2_with fail
  go_at_call 18
  refine (code_any _ [] _ (HG.out.below B16.out) rfl (by decide)).mono ?_
  rintro e w17 ⟨rfl, hb⟩
  have R17 := Lib.hid (R16.out.below hb)
  have V17 := Lib.hid (V16.out.below hb)
  have B17 := Lib.hid (B16.out.trans (hb.mono B16.out.size))
  clear hb
  go_wp2_with fail
  go_at_call 12
  refine (num_bad _ _ _ 1 3 _ (not_fits3 1) (by decide) V17.out).mono ?_
  rintro e w18 ⟨v, rfl, hc, hb⟩
  have C18 := Lib.hid hc
  have R18 := Lib.hid (R17.out.below hb)
  have V18 := Lib.hid (V17.out.below hb)
  have B18 := Lib.hid (B17.out.trans (hb.mono B17.out.size))
  clear hc hb
  go_wp2_with fail
  go_at_call 18
  refine (code_any v [1] _ (HG.out.below B18.out) C18.out (by decide)).mono ?_
  rintro e w19 ⟨rfl, hb⟩
  have R19 := Lib.hid (R18.out.below hb)
  have V19 := Lib.hid (V18.out.below hb)
  have B19 := Lib.hid (B18.out.trans (hb.mono B18.out.size))
  clear hb
  go_wp2
  go_ret
  exact ⟨rfl, B19.out⟩
set_option maxRecDepth 100000 in
set_option maxHeartbeats 1000000 in
theorem joined_neg_big (a b : Int) (s t : ByteArray) (w : World) (hg : ErrType w) (hs : s.size ≤ 1024) (ht : t.size ≤ 1024) (ha1 : a ≤ 9223372036854775807) (hbm : b ≤ 9223372036854775807) (ha : a < 0) (hb0 : 4294967296 ≤ b) :
    Calls Tryd.prog 7 #[.int .i64 a, .int .i64 b, .string s, .string t] w fun e w' => e = .returned (.bool true) ∧ Below w.heap.size w w' := by
  have HG := Lib.hid hg
  have hsd : decide ((1024 : Int) < (s.size : Int)) = false := by simp only [decide_eq_false_iff_not]; omega
  have htd : decide ((1024 : Int) < (t.size : Int)) = false := by simp only [decide_eq_false_iff_not]; omega
  have HA1 := Lib.hid ha1
  have HB1 := Lib.hid hbm
  have HFA := Lib.hid (show ¬ Fits a 8 by unfold Fits; omega)
  have HFB := Lib.hid (show ¬ Fits b 4 by unfold Fits; omega)
  have had : decide ((0 : Int) ≤ a) = false := by simp only [decide_eq_false_iff_not]; omega
  have hbd : decide ((0 : Int) ≤ b) = true := by simp only [decide_eq_true_eq]; omega
  have hbd2 : decide (b < (4294967296 : Int)) = false := by simp only [decide_eq_false_iff_not]; omega
  clear hg ha1 hbm
  go_enter Tryd.func7, Tryd.ntmps7
  go_wp2_with fail
  go_at_call 10
  refine (newWriter _).mono ?_
  rintro e w1 ⟨rfl, hW1, hb1, hz1⟩
  have H1 := Lib.hid hW1
  have B1 := Lib.hid hb1
  have Z1 := Lib.hid hz1
  clear hW1 hb1 hz1
  go_wp2_with fail
  go_at_call 10
  refine (newWriter _).mono ?_
  rintro e w2 ⟨rfl, hW2, hb2, hz2⟩
  have T2 := Lib.hid (show Two w2 w.heap.size none [] w1.heap.size none [] from ⟨H1.out.below hb2, hW2, by have := Z1.out; omega, by simp, by simp, by simp⟩)
  have B2 := Lib.hid (B1.out.trans (hb2.mono B1.out.size))
  clear hW2 hb2 hz2 H1
  go_wp2_with fail
  go_at_call 12
  refine (num_bad _ _ _ a 8 _ HFA.out HA1.out T2.out.1).mono ?_
  rintro e w3 ⟨v3, rfl, hc, hb⟩
  have T3 := Lib.hid (T2.out.below hb)
  have C3 := Lib.hid hc
  have B3 := Lib.hid (B2.out.trans (hb.mono B2.out.size))
  clear hc hb
  go_wp2_with fail
  go_at_call 18
  refine (code_any v3 [1] _ (HG.out.below B3.out) C3.out (by decide)).mono ?_
  rintro e w4 ⟨rfl, hb⟩
  have T4 := Lib.hid (T3.out.below hb)
  have B4 := Lib.hid (B3.out.trans (hb.mono B3.out.size))
  clear hb
  go_wp2_with fail
  go_at_call 14
  refine (text_ok _ _ _ s _ hs T4.out.1 (by decide)).mono ?_
  rintro e w5 ⟨rfl, row5, hW, hr, hf⟩
  have T5 := Lib.hid (T4.out.step hW hr hf)
  have B5 := Lib.hid (B4.out.trans ((hf.below (Nat.le_of_lt T4.out.1.lt) (fun g hg => (T4.out.1.row_lt hg).1)).mono (Nat.le_refl _)))
  clear hW hr hf
  go_wp2_with fail
  go_at_call 18
  refine (code_any _ [] _ (HG.out.below B5.out) rfl (by decide)).mono ?_
  rintro e w6 ⟨rfl, hb⟩
  have T6 := Lib.hid (T5.out.below hb)
  have B6 := Lib.hid (B5.out.trans (hb.mono B5.out.size))
  clear hb
  go_wp2_with fail
  go_at_call 12
  refine (num_bad _ _ _ b 4 _ HFB.out HB1.out T6.out.swap.1).mono ?_
  rintro e w7 ⟨v7, rfl, hc, hb⟩
  have T7 := Lib.hid (T6.out.below hb)
  have C7 := Lib.hid hc
  have B7 := Lib.hid (B6.out.trans (hb.mono B6.out.size))
  clear hc hb
  go_wp2_with fail
  go_at_call 18
  refine (code_any v7 [1] _ (HG.out.below B7.out) C7.out (by decide)).mono ?_
  rintro e w8 ⟨rfl, hb⟩
  have T8 := Lib.hid (T7.out.below hb)
  have B8 := Lib.hid (B7.out.trans (hb.mono B7.out.size))
  clear hb
  go_wp2_with fail
  go_at_call 14
  refine (text_ok _ _ _ t _ ht T8.out.swap.1 (by decide)).mono ?_
  rintro e w9 ⟨rfl, row9, hW, hr, hf⟩
  have T9 := Lib.hid (T8.out.swap.step hW hr hf)
  have B9 := Lib.hid (B8.out.trans ((hf.below (Nat.le_of_lt T8.out.swap.1.lt) (fun g hg => (T8.out.swap.1.row_lt hg).1)).mono B1.out.size))
  clear hW hr hf
  have T9s := Lib.hid T9.out.swap
  clear T9
  have T9 := T9s
  clear T9s
  go_wp2_with fail
  go_at_call 18
  refine (code_any _ [] _ (HG.out.below B9.out) rfl (by decide)).mono ?_
  rintro e w10 ⟨rfl, hb⟩
  have T10 := Lib.hid (T9.out.below hb)
  have B10 := Lib.hid (B9.out.trans (hb.mono B9.out.size))
  clear hb
  go_wp2_with fail
  go_at_call 16
  refine (bytes_any _ _ _ _ T10.out.1).mono ?_
  rintro e wx ⟨rfl, rfl⟩
  generalize hS1 : strOfNums ([] ++ leb (s.size : Int) 2 ++ nums s) = S1
  have z1 : S1.size = 0 + 2 + s.size := by rw [← hS1, strOfNums_size]; simp only [List.length_append, List.length_nil, nums_length, leb_len (s.size : Int) 2 (by decide)]
  have HS1 := Lib.hid hS1
  have Z1x := Lib.hid z1
  have y1 : S1.size ≤ 2000 := by omega
  clear hS1 z1
  go_wp2_with fail
  go_at_call 16
  refine (bytes_any _ _ _ _ T10.out.swap.1).mono ?_
  rintro e wx ⟨rfl, rfl⟩
  generalize hS2 : strOfNums ([] ++ leb (t.size : Int) 2 ++ nums t) = S2
  have z2 : S2.size = 0 + 2 + t.size := by rw [← hS2, strOfNums_size]; simp only [List.length_append, List.length_nil, nums_length, leb_len (t.size : Int) 2 (by decide)]
  have HS2 := Lib.hid hS2
  have Z2x := Lib.hid z2
  have y2 : S2.size ≤ 2000 := by omega
  clear hS2 z2
  go_wp2_with fail
  go_at_call 19
  generalize hS : S1 ++ S2 = S
  have HS := Lib.hid (show strOfNums (([] ++ leb (s.size : Int) 2 ++ nums s) ++ ([] ++ leb (t.size : Int) 2 ++ nums t)) = S by rw [← str_append, HS1.out, HS2.out]; exact hS)
  have HZ := Lib.hid (show S.size = 2 + s.size + (2 + t.size) by have h1 := Z1x.out; have h2 := Z2x.out; have h3 := congrArg ByteArray.size hS; rw [ByteArray.size_append] at h3; omega)
  clear hS y1 y2
  refine (newReader S _).mono ?_
  rintro e w11 ⟨rfl, hR, hb, hz⟩
  have R11 := Lib.hid hR
  have V11 := Lib.hid (T10.out.1.below hb)
  have B11 := Lib.hid (B10.out.trans (hb.mono B10.out.size))
  have ZR := Lib.hid B10.out.size
  have Q1 := Lib.hid (show w.heap.size ≠ w10.heap.size from by have := T10.out.1.lt; omega)
  have Q2 := Lib.hid (fun g hg => (show g ≠ w10.heap.size from by have := (T10.out.1.row_lt (g := g) hg).2; omega))
  clear hR hb hz
  go_wp2_with fail
  go_at_call 22
  refine (rtext_at _ (0) (([] : List Int)) (leb (t.size : Int) 2 ++ nums t) s S _ (by refine Eq.trans (congrArg strOfNums ?_) HS.out; first | with_reducible rfl | simp only [List.nil_append, List.append_assoc]) (by rfl) hs (((byt_leb _ 2).app (byt_nums t))) (by have := HZ.out; omega) R11.out).mono ?_
  rintro e w12 ⟨rfl, hR, hf⟩
  have R12 := Lib.hid (show Rdr w12 w10.heap.size S (2 + s.size) by simpa only [Nat.zero_add, Int.reduceToNat, Nat.add_assoc] using hR)
  have V12 := Lib.hid (V11.out.fr hf Q1.out (by simp) (fun g hg => ⟨Q2.out g hg, by simp⟩))
  have B12 := Lib.hid (B11.out.trans ((hf.below (Nat.le_of_lt R11.out.lt) (fun g hg => by cases hg)).mono ZR.out))
  clear hR hf
  go_wp2_with fail
  go_at_call 18
  refine (code_any _ [] _ (HG.out.below B12.out) rfl (by decide)).mono ?_
  rintro e w13 ⟨rfl, hb⟩
  have R13 := Lib.hid (R12.out.below hb)
  have V13 := Lib.hid (V12.out.below hb)
  have B13 := Lib.hid (B12.out.trans (hb.mono B12.out.size))
  clear hb
  go_wp2_with fail
  go_at_call 22
  refine (rtext_at _ (2 + s.size) (leb (s.size : Int) 2 ++ nums s) (([] : List Int)) t S _ (by refine Eq.trans (congrArg strOfNums ?_) HS.out; first | with_reducible rfl | simp only [List.nil_append, List.append_assoc, List.append_nil]) (by simp only [List.length_append, leb_len (s.size : Int) 2 (by decide), nums_length s]) ht (Byt.nil) (by have := HZ.out; omega) R13.out).mono ?_
  rintro e w14 ⟨rfl, hR, hf⟩
  have R14 := Lib.hid (show Rdr w14 w10.heap.size S (2 + s.size + 2 + t.size) by simpa only [Nat.zero_add, Int.reduceToNat, Nat.add_assoc] using hR)
  have V14 := Lib.hid (V13.out.fr hf Q1.out (by simp) (fun g hg => ⟨Q2.out g hg, by simp⟩))
  have B14 := Lib.hid (B13.out.trans ((hf.below (Nat.le_of_lt R13.out.lt) (fun g hg => by cases hg)).mono ZR.out))
  clear hR hf
  go_wp2_with fail
  go_at_call 18
  refine (code_any _ [] _ (HG.out.below B14.out) rfl (by decide)).mono ?_
  rintro e w15 ⟨rfl, hb⟩
  have R15 := Lib.hid (R14.out.below hb)
  have V15 := Lib.hid (V14.out.below hb)
  have B15 := Lib.hid (B14.out.trans (hb.mono B14.out.size))
  clear hb
  have hend : 2 + s.size + 2 + t.size = S.size := by have := HZ.out; omega
  have RE := Lib.hid (show Rdr w15 w10.heap.size S S.size by rw [← hend]; exact R15.out)
  clear hend
  go_wp2_with fail
  go_at_call 24
  refine (end_ok _ S _ RE.out (by have := HZ.out; omega)).mono ?_
  rintro e w16 ⟨rfl, hb⟩
  have R16 := Lib.hid (R15.out.below hb)
  have V16 := Lib.hid (V15.out.below hb)
  have B16 := Lib.hid (B15.out.trans (hb.mono B15.out.size))
  clear hb
  go_wp2_with fail
  go_at_call 18
  refine (code_any _ [] _ (HG.out.below B16.out) rfl (by decide)).mono ?_
  rintro e w17 ⟨rfl, hb⟩
  have R17 := Lib.hid (R16.out.below hb)
  have V17 := Lib.hid (V16.out.below hb)
  have B17 := Lib.hid (B16.out.trans (hb.mono B16.out.size))
  clear hb
  go_wp2_with fail
  go_at_call 12
  refine (num_bad _ _ _ 1 3 _ (not_fits3 1) (by decide) V17.out).mono ?_
  rintro e w18 ⟨v, rfl, hc, hb⟩
  have C18 := Lib.hid hc
  have R18 := Lib.hid (R17.out.below hb)
  have V18 := Lib.hid (V17.out.below hb)
  have B18 := Lib.hid (B17.out.trans (hb.mono B17.out.size))
  clear hc hb
  go_wp2_with fail
  go_at_call 18
  refine (code_any v [1] _ (HG.out.below B18.out) C18.out (by decide)).mono ?_
  rintro e w19 ⟨rfl, hb⟩
  have R19 := Lib.hid (R18.out.below hb)
  have V19 := Lib.hid (V18.out.below hb)
  have B19 := Lib.hid (B18.out.trans (hb.mono B18.out.size))
  clear hb
  go_wp2
  go_ret
  exact ⟨rfl, B19.out⟩
end Go.Proofs.YtionhkcbobddjaaDoor
