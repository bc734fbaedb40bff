/-
  FieldCut, walked: it answers true, and nothing that was there turns.
-/
import Derived.Test.YtionhkcbobddjaaDoorBytes
import Derived.Laws.BitsAllLaws
namespace Go.Proofs.YtionhkcbobddjaaDoor
open Go.RowKit Go.Extern.Stop Go.Stop Go.Extern Go.PlainAid Go.Lib

theorem mask40 (n : Int) : 0 ≤ bits .and .i64 n 1099511627775 ∧ bits .and .i64 n 1099511627775 ≤ 1099511627775 := by
  have key : bits .and .i64 n 1099511627775 = IntKind.i64.wrap (((BitVec.ofInt IntKind.i64.bits n &&& BitVec.ofInt IntKind.i64.bits 1099511627775).toNat : Nat) : Int) := rfl
  have h : (BitVec.ofInt IntKind.i64.bits n &&& BitVec.ofInt IntKind.i64.bits 1099511627775).toNat ≤ 1099511627775 := by
    rw [BitVec.toNat_and]
    refine Nat.le_trans Nat.and_le_right ?_
    decide
  rw [key]
  generalize (BitVec.ofInt IntKind.i64.bits n &&& BitVec.ofInt IntKind.i64.bits 1099511627775).toNat = x at h
  have e : IntKind.i64.wrap (x : Int) = (x : Int) := IntWalk.i64_in _ (by omega)
  rw [e]; omega

theorem width8 : Width 8 := .inr (.inr (.inr rfl))
theorem fits2 (n : Nat) (h : n ≤ 1024) : Fits n 2 := by unfold Fits; omega
/-- What is left of such bytes that are cut off. -/
theorem cut_facts (m : Int) (s : ByteArray) (K : Nat) (hm : Fits m 8) (hs : s.size ≤ 1024) (hK : K < 10 + s.size) (S : ByteArray) (hS : strOfNums ([] ++ leb m (Int.toNat 8) ++ leb (s.size : Int) 2 ++ nums s) = S) :
    S.size = 10 + s.size ∧ (S.extract 0 K).size = K ∧ (8 ≤ K → lev ((S.extract 0 K).extract 0 (S.extract 0 K).size) (Int.toNat 8) = m) ∧ (10 ≤ K → lev ((S.extract 0 K).extract 8 (S.extract 0 K).size) 2 = s.size) := by
  have e8 : (leb m (Int.toNat 8)).length = 8 := leb_len m 8 (by decide)
  have e2 : (leb (s.size : Int) 2).length = 2 := leb_len _ 2 (by decide)
  have en := nums_length s
  subst hS
  have hz : (strOfNums ([] ++ leb m (Int.toNat 8) ++ leb (s.size : Int) 2 ++ nums s)).size = 10 + s.size := by
    rw [strOfNums_size]; simp only [List.nil_append, List.length_append, e8, e2, en]
  have hT : (strOfNums ([] ++ leb m (Int.toNat 8) ++ leb (s.size : Int) 2 ++ nums s)).extract 0 K = strOfNums (([] ++ leb m (Int.toNat 8) ++ leb (s.size : Int) 2 ++ nums s).take K) := by
    rw [extract_str]; simp
  rw [hT]
  refine ⟨hz, ?_, fun h8 => ?_, fun h10 => ?_⟩
  · rw [strOfNums_size, List.length_take]; simp only [List.nil_append, List.length_append, e8, e2, en]; omega
  · rw [extract_rest, List.drop_zero, List.nil_append, List.append_assoc, List.take_append, e8, List.take_of_length_le (by omega)]
    exact lev_leb m 8 _ hm (((byt_leb _ _).app (byt_nums s)).take _)
  · rw [extract_rest, List.nil_append, List.append_assoc, List.take_append, e8, List.take_of_length_le (by omega), List.drop_append, e8, List.drop_of_length_le (by omega), List.nil_append, List.drop_zero, List.take_append, e2, List.take_of_length_le (by omega)]
    exact lev_leb s.size 2 _ (fits2 _ hs) ((byt_nums s).take _)

theorem cut_bound (n : Int) (s : ByteArray) (c : Int) (w : World) (hs : 1024 < s.size) :
    Calls Tryd.prog 8 #[.int .i64 n, .string s, .int .u8 c] w fun e w' => e = .returned (.bool true) ∧ Below w.heap.size w w' := by
  have hsI : (1024 : Int) < (s.size : Int) := by omega
  go_enter Tryd.func8, Tryd.ntmps8
  go_wp2
  go_ret
  exact ⟨rfl, Below.refl _ _⟩

set_option maxRecDepth 100000 in
set_option maxHeartbeats 1000000 in
theorem cut_a (n : Int) (s : ByteArray) (c : Int) (K : Nat) (w : World) (hg : ErrType w) (hs : s.size ≤ 1024) (hc0 : 0 ≤ c) (hc1 : c ≤ 255) (hk : c % (10 + (s.size : Int)) = K) (hK : K < 8) :
    Calls Tryd.prog 8 #[.int .i64 n, .string s, .int .u8 c] w fun e w' => e = .returned (.bool true) ∧ Below w.heap.size w w' := by
  have hKx : (K : Int) < 8 := by omega
  have hKy : decide ((K : Int) < 8) = true := by simp only [decide_eq_true_eq]; omega
  have HG := Lib.hid hg
  have hsI : (s.size : Int) ≤ 1024 := by omega
  obtain ⟨m0, m1⟩ := mask40 n
  generalize hm : bits .and .i64 n 1099511627775 = m at m0 m1
  have HF := Lib.hid (show Fits m 8 by unfold Fits; omega)
  clear hg
  go_enter Tryd.func8, Tryd.ntmps8
  go_wp2_with fail
  go_at_call 10
  refine (newWriter _).mono ?_
  rintro e w1 ⟨rfl, hW, hb1, hz1⟩
  have HW := Lib.hid hW
  have HB1 := Lib.hid hb1
  clear hW hb1 hz1
  go_wp2_with fail
  go_at_call 12
  refine (num_ok _ none [] m 8 _ HF.out HW.out (by decide)).mono ?_
  rintro e w2 ⟨rfl, row2, hW2, hr2, hf2⟩
  have HB2 := Lib.hid (HB1.out.trans (hf2.below (Nat.le_of_lt HW.out.lt) (fun g hg => by cases hg)))
  have HW2 := Lib.hid hW2
  have HG2 := Lib.hid (HG.out.below HB2.out)
  clear hW2 hr2 hf2
  go_wp2_with fail
  go_at_call 18
  refine (code_any _ [] _ HG2.out rfl (by decide)).mono ?_
  rintro e w3 ⟨rfl, hb3⟩
  have HB3 := Lib.hid (HB2.out.trans (hb3.mono HB2.out.size))
  have HW3 := Lib.hid (HW2.out.below hb3)
  have HG3 := Lib.hid (HG2.out.below hb3)
  clear hb3
  go_wp2_with fail
  go_at_call 14
  refine (text_ok _ row2 _ s _ hs HW3.out (by simp [leb])).mono ?_
  rintro e w4 ⟨rfl, row4, hW4, hr4, hf4⟩
  have HB4 := Lib.hid (HB3.out.trans (hf4.below (Nat.le_of_lt HW3.out.lt) (fun g hg => (HW3.out.row_lt hg).1)))
  have HW4 := Lib.hid hW4
  have HG4 := Lib.hid (HG.out.below HB4.out)
  clear hW4 hr4 hf4
  go_wp2_with fail
  go_at_call 18
  refine (code_any _ [] _ HG4.out rfl (by decide)).mono ?_
  rintro e w5 ⟨rfl, hb5⟩
  have HB5 := Lib.hid (HB4.out.trans (hb5.mono HB4.out.size))
  have HW5 := Lib.hid (HW4.out.below hb5)
  have HG5 := Lib.hid (HG4.out.below hb5)
  clear hb5
  go_wp2_with fail
  go_at_call 16
  refine (bytes_any _ _ _ _ HW5.out).mono ?_
  rintro e w6 ⟨rfl, rfl⟩
  obtain ⟨S, hS⟩ : ∃ S, strOfNums ([] ++ leb m (Int.toNat 8) ++ leb (s.size : Int) 2 ++ nums s) = S := ⟨_, rfl⟩
  rw [hS]
  have hKlt : K < 10 + s.size := by have := Int.emod_lt_of_pos c (b := 10 + (s.size : Int)) (by omega); omega
  obtain ⟨q1, q2, q3, q4⟩ := cut_facts m s K HF.out hs hKlt S hS
  have hk' : c % (S.size : Int) = (K : Int) := by rw [q1, ← hk]; congr 1
  have hne : ((S.size : Int) != 10 + (s.size : Int)) = false := by rw [q1]; simp
  have hKI : (K : Int) ≤ (S.size : Int) := by omega
  have hK0 : (0 : Int) ≤ (K : Int) := Int.natCast_nonneg _
  have hSpos : (S.size : Int) ≠ 0 := by omega
  have HKl := Lib.hid hKlt
  have Q2 := Lib.hid q2
  have Q3 := Lib.hid q3
  have Q4 := Lib.hid q4
  clear hk q1 q2 q3 q4 hS hKlt
  go_wp2_with fail
  generalize S.extract 0 K = T at Q2 Q3 Q4 ⊢
  go_at_call 19
  refine (newReader T _).mono ?_
  rintro e w7 ⟨rfl, hR, hb7, hz7⟩
  have HB7 := Lib.hid (HB5.out.trans (hb7.mono HB5.out.size))
  have HR7 := Lib.hid hR
  have HG7 := Lib.hid (HG5.out.below hb7)
  have HZ := Lib.hid HB5.out.size
  clear hR hb7 hz7
  go_wp2_with fail
  go_at_call 20
  refine (rnum_short _ 0 T 8 _ HR7.out (by omega) (by have := Q2.out; have := HKl.out; omega) width8 (by have := Q2.out; have := HKl.out; omega)).mono ?_
  rintro e w8 ⟨v, rfl, hc8, hb8⟩
  have HBa := Lib.hid (HB7.out.trans (hb8.mono HB7.out.size))
  have HRr := HR7
  have HC := Lib.hid hc8
  have HGa := Lib.hid (HG.out.below HBa.out)
  have HRa := Lib.hid (HRr.out.below hb8)
  clear hc8 hb8
  go_wp2_with fail
  go_at_call 18
  refine (code_any v [10] _ HGa.out HC.out (by decide)).mono ?_
  rintro e wb ⟨rfl, hbb⟩
  have HBb := Lib.hid (HBa.out.trans (hbb.mono HBa.out.size))
  have HRb := Lib.hid (HRa.out.below hbb)
  have HCb := Lib.hid (HC.out.below hbb)
  have HGb := Lib.hid (HGa.out.below hbb)
  clear hbb
  go_wp2_with fail
  go_at_call 26
  refine (rat _ 0 T _ HRb.out).mono ?_
  rintro e wc ⟨rfl, rfl⟩
  go_wp2_with fail
  go_at_call 28
  refine (chain_any v [10] _ HGb.out HCb.out (by decide)).mono ?_
  rintro e wd ⟨sl, rfl, hown, hbd⟩
  have HBd := Lib.hid (HBb.out.trans (hbd.mono HBb.out.size))
  obtain ⟨g, cap, rfl, _⟩ := hown.form (by decide)
  simp only [List.length_cons, List.length_nil, Nat.zero_add]
  clear hown hbd
  go_wp2
  go_ret
  exact ⟨rfl, HBd.out⟩
set_option maxRecDepth 100000 in
set_option maxHeartbeats 1000000 in
theorem cut_b (n : Int) (s : ByteArray) (c : Int) (K : Nat) (w : World) (hg : ErrType w) (hs : s.size ≤ 1024) (hc0 : 0 ≤ c) (hc1 : c ≤ 255) (hk : c % (10 + (s.size : Int)) = K) (hK : 8 ≤ K) (hK2 : K < 10) :
    Calls Tryd.prog 8 #[.int .i64 n, .string s, .int .u8 c] w fun e w' => e = .returned (.bool true) ∧ Below w.heap.size w w' := by
  have hKx : decide ((10 : Int) ≤ (K : Int)) = false := by simp only [decide_eq_false_iff_not]; omega
  have hKy : decide ((K : Int) < 8) = false := by simp only [decide_eq_false_iff_not]; omega
  have HG := Lib.hid hg
  have hsI : (s.size : Int) ≤ 1024 := by omega
  obtain ⟨m0, m1⟩ := mask40 n
  generalize hm : bits .and .i64 n 1099511627775 = m at m0 m1
  have HF := Lib.hid (show Fits m 8 by unfold Fits; omega)
  clear hg
  go_enter Tryd.func8, Tryd.ntmps8
  go_wp2_with fail
  go_at_call 10
  refine (newWriter _).mono ?_
  rintro e w1 ⟨rfl, hW, hb1, hz1⟩
  have HW := Lib.hid hW
  have HB1 := Lib.hid hb1
  clear hW hb1 hz1
  go_wp2_with fail
  go_at_call 12
  refine (num_ok _ none [] m 8 _ HF.out HW.out (by decide)).mono ?_
  rintro e w2 ⟨rfl, row2, hW2, hr2, hf2⟩
  have HB2 := Lib.hid (HB1.out.trans (hf2.below (Nat.le_of_lt HW.out.lt) (fun g hg => by cases hg)))
  have HW2 := Lib.hid hW2
  have HG2 := Lib.hid (HG.out.below HB2.out)
  clear hW2 hr2 hf2
  go_wp2_with fail
  go_at_call 18
  refine (code_any _ [] _ HG2.out rfl (by decide)).mono ?_
  rintro e w3 ⟨rfl, hb3⟩
  have HB3 := Lib.hid (HB2.out.trans (hb3.mono HB2.out.size))
  have HW3 := Lib.hid (HW2.out.below hb3)
  have HG3 := Lib.hid (HG2.out.below hb3)
  clear hb3
  go_wp2_with fail
  go_at_call 14
  refine (text_ok _ row2 _ s _ hs HW3.out (by simp [leb])).mono ?_
  rintro e w4 ⟨rfl, row4, hW4, hr4, hf4⟩
  have HB4 := Lib.hid (HB3.out.trans (hf4.below (Nat.le_of_lt HW3.out.lt) (fun g hg => (HW3.out.row_lt hg).1)))
  have HW4 := Lib.hid hW4
  have HG4 := Lib.hid (HG.out.below HB4.out)
  clear hW4 hr4 hf4
  go_wp2_with fail
  go_at_call 18
  refine (code_any _ [] _ HG4.out rfl (by decide)).mono ?_
  rintro e w5 ⟨rfl, hb5⟩
  have HB5 := Lib.hid (HB4.out.trans (hb5.mono HB4.out.size))
  have HW5 := Lib.hid (HW4.out.below hb5)
  have HG5 := Lib.hid (HG4.out.below hb5)
  clear hb5
  go_wp2_with fail
  go_at_call 16
  refine (bytes_any _ _ _ _ HW5.out).mono ?_
  rintro e w6 ⟨rfl, rfl⟩
  obtain ⟨S, hS⟩ : ∃ S, strOfNums ([] ++ leb m (Int.toNat 8) ++ leb (s.size : Int) 2 ++ nums s) = S := ⟨_, rfl⟩
  rw [hS]
  have hKlt : K < 10 + s.size := by have := Int.emod_lt_of_pos c (b := 10 + (s.size : Int)) (by omega); omega
  obtain ⟨q1, q2, q3, q4⟩ := cut_facts m s K HF.out hs hKlt S hS
  have hk' : c % (S.size : Int) = (K : Int) := by rw [q1, ← hk]; congr 1
  have hne : ((S.size : Int) != 10 + (s.size : Int)) = false := by rw [q1]; simp
  have hKI : (K : Int) ≤ (S.size : Int) := by omega
  have hK0 : (0 : Int) ≤ (K : Int) := Int.natCast_nonneg _
  have hSpos : (S.size : Int) ≠ 0 := by omega
  have HKl := Lib.hid hKlt
  have Q2 := Lib.hid q2
  have Q3 := Lib.hid q3
  have Q4 := Lib.hid q4
  clear hk q1 q2 q3 q4 hS hKlt
  go_wp2_with fail
  generalize S.extract 0 K = T at Q2 Q3 Q4 ⊢
  go_at_call 19
  refine (newReader T _).mono ?_
  rintro e w7 ⟨rfl, hR, hb7, hz7⟩
  have HB7 := Lib.hid (HB5.out.trans (hb7.mono HB5.out.size))
  have HR7 := Lib.hid hR
  have HG7 := Lib.hid (HG5.out.below hb7)
  have HZ := Lib.hid HB5.out.size
  clear hR hb7 hz7
  go_wp2_with fail
  go_at_call 20
  refine (rnum_ok _ 0 T 8 _ HR7.out (by omega) (by have := Q2.out; have := HKl.out; omega) width8 (by have := Q2.out; have := HKl.out; omega) (by rw [Q3.out (by omega)]; omega) (by rw [Q3.out (by omega)]; omega)).mono ?_
  rintro e w8 ⟨rfl, hr8, hf8⟩
  rw [Q3.out (by omega)]
  have HB8 := Lib.hid (HB7.out.trans ((hf8.below (Nat.le_of_lt HR7.out.lt) (fun g hg => by cases hg)).mono HZ.out))
  have HR8 := Lib.hid (show Rdr w8 w5.heap.size T 8 from hr8)
  have HG8 := Lib.hid (HG.out.below HB8.out)
  clear hr8 hf8
  go_wp2_with fail
  go_at_call 22
  refine (rtext_few _ 8 T _ HG8.out HR8.out (by have := Q2.out; have := HKl.out; omega) (by have := Q2.out; have := HKl.out; omega) (by have := Q2.out; have := HKl.out; omega)).mono ?_
  rintro e w9 ⟨v, rfl, hc8, hb8⟩
  have HBa := Lib.hid (HB8.out.trans (hb8.mono HB8.out.size))
  have HRr := HR8
  have HC := Lib.hid hc8
  have HGa := Lib.hid (HG.out.below HBa.out)
  have HRa := Lib.hid (HRr.out.below hb8)
  clear hc8 hb8
  go_wp2_with fail
  go_at_call 18
  refine (code_any v [10,10] _ HGa.out HC.out (by decide)).mono ?_
  rintro e wb ⟨rfl, hbb⟩
  have HBb := Lib.hid (HBa.out.trans (hbb.mono HBa.out.size))
  have HRb := Lib.hid (HRa.out.below hbb)
  have HCb := Lib.hid (HC.out.below hbb)
  have HGb := Lib.hid (HGa.out.below hbb)
  clear hbb
  go_wp2_with fail
  go_at_call 26
  refine (rat _ 8 T _ HRb.out).mono ?_
  rintro e wc ⟨rfl, rfl⟩
  go_wp2_with fail
  go_at_call 28
  refine (chain_any v [10,10] _ HGb.out HCb.out (by decide)).mono ?_
  rintro e wd ⟨sl, rfl, hown, hbd⟩
  have HBd := Lib.hid (HBb.out.trans (hbd.mono HBb.out.size))
  obtain ⟨g, cap, rfl, _⟩ := hown.form (by decide)
  simp only [List.length_cons, List.length_nil, Nat.zero_add, Nat.reduceAdd]
  clear hown hbd
  go_wp2
  go_ret
  exact ⟨rfl, HBd.out⟩
set_option maxRecDepth 100000 in
set_option maxHeartbeats 1000000 in
theorem cut_c (n : Int) (s : ByteArray) (c : Int) (K : Nat) (w : World) (hg : ErrType w) (hs : s.size ≤ 1024) (hc0 : 0 ≤ c) (hc1 : c ≤ 255) (hk : c % (10 + (s.size : Int)) = K) (hK : 10 ≤ K) :
    Calls Tryd.prog 8 #[.int .i64 n, .string s, .int .u8 c] w fun e w' => e = .returned (.bool true) ∧ Below w.heap.size w w' := by
  have hKx : decide ((10 : Int) ≤ (K : Int)) = true := by simp only [decide_eq_true_eq]; omega
  have hKy : decide ((K : Int) < 8) = false := by simp only [decide_eq_false_iff_not]; omega
  have HG := Lib.hid hg
  have hsI : (s.size : Int) ≤ 1024 := by omega
  obtain ⟨m0, m1⟩ := mask40 n
  generalize hm : bits .and .i64 n 1099511627775 = m at m0 m1
  have HF := Lib.hid (show Fits m 8 by unfold Fits; omega)
  clear hg
  go_enter Tryd.func8, Tryd.ntmps8
  go_wp2_with fail
  go_at_call 10
  refine (newWriter _).mono ?_
  rintro e w1 ⟨rfl, hW, hb1, hz1⟩
  have HW := Lib.hid hW
  have HB1 := Lib.hid hb1
  clear hW hb1 hz1
  go_wp2_with fail
  go_at_call 12
  refine (num_ok _ none [] m 8 _ HF.out HW.out (by decide)).mono ?_
  rintro e w2 ⟨rfl, row2, hW2, hr2, hf2⟩
  have HB2 := Lib.hid (HB1.out.trans (hf2.below (Nat.le_of_lt HW.out.lt) (fun g hg => by cases hg)))
  have HW2 := Lib.hid hW2
  have HG2 := Lib.hid (HG.out.below HB2.out)
  clear hW2 hr2 hf2
  go_wp2_with fail
  go_at_call 18
  refine (code_any _ [] _ HG2.out rfl (by decide)).mono ?_
  rintro e w3 ⟨rfl, hb3⟩
  have HB3 := Lib.hid (HB2.out.trans (hb3.mono HB2.out.size))
  have HW3 := Lib.hid (HW2.out.below hb3)
  have HG3 := Lib.hid (HG2.out.below hb3)
  clear hb3
  go_wp2_with fail
  go_at_call 14
  refine (text_ok _ row2 _ s _ hs HW3.out (by simp [leb])).mono ?_
  rintro e w4 ⟨rfl, row4, hW4, hr4, hf4⟩
  have HB4 := Lib.hid (HB3.out.trans (hf4.below (Nat.le_of_lt HW3.out.lt) (fun g hg => (HW3.out.row_lt hg).1)))
  have HW4 := Lib.hid hW4
  have HG4 := Lib.hid (HG.out.below HB4.out)
  clear hW4 hr4 hf4
  go_wp2_with fail
  go_at_call 18
  refine (code_any _ [] _ HG4.out rfl (by decide)).mono ?_
  rintro e w5 ⟨rfl, hb5⟩
  have HB5 := Lib.hid (HB4.out.trans (hb5.mono HB4.out.size))
  have HW5 := Lib.hid (HW4.out.below hb5)
  have HG5 := Lib.hid (HG4.out.below hb5)
  clear hb5
  go_wp2_with fail
  go_at_call 16
  refine (bytes_any _ _ _ _ HW5.out).mono ?_
  rintro e w6 ⟨rfl, rfl⟩
  obtain ⟨S, hS⟩ : ∃ S, strOfNums ([] ++ leb m (Int.toNat 8) ++ leb (s.size : Int) 2 ++ nums s) = S := ⟨_, rfl⟩
  rw [hS]
  have hKlt : K < 10 + s.size := by have := Int.emod_lt_of_pos c (b := 10 + (s.size : Int)) (by omega); omega
  obtain ⟨q1, q2, q3, q4⟩ := cut_facts m s K HF.out hs hKlt S hS
  have hk' : c % (S.size : Int) = (K : Int) := by rw [q1, ← hk]; congr 1
  have hne : ((S.size : Int) != 10 + (s.size : Int)) = false := by rw [q1]; simp
  have hKI : (K : Int) ≤ (S.size : Int) := by omega
  have hK0 : (0 : Int) ≤ (K : Int) := Int.natCast_nonneg _
  have hSpos : (S.size : Int) ≠ 0 := by omega
  have HKl := Lib.hid hKlt
  have Q2 := Lib.hid q2
  have Q3 := Lib.hid q3
  have Q4 := Lib.hid q4
  clear hk q1 q2 q3 q4 hS hKlt
  go_wp2_with fail
  generalize S.extract 0 K = T at Q2 Q3 Q4 ⊢
  go_at_call 19
  refine (newReader T _).mono ?_
  rintro e w7 ⟨rfl, hR, hb7, hz7⟩
  have HB7 := Lib.hid (HB5.out.trans (hb7.mono HB5.out.size))
  have HR7 := Lib.hid hR
  have HG7 := Lib.hid (HG5.out.below hb7)
  have HZ := Lib.hid HB5.out.size
  clear hR hb7 hz7
  go_wp2_with fail
  go_at_call 20
  refine (rnum_ok _ 0 T 8 _ HR7.out (by omega) (by have := Q2.out; have := HKl.out; omega) width8 (by have := Q2.out; have := HKl.out; omega) (by rw [Q3.out (by omega)]; omega) (by rw [Q3.out (by omega)]; omega)).mono ?_
  rintro e w8 ⟨rfl, hr8, hf8⟩
  rw [Q3.out (by omega)]
  have HB8 := Lib.hid (HB7.out.trans ((hf8.below (Nat.le_of_lt HR7.out.lt) (fun g hg => by cases hg)).mono HZ.out))
  have HR8 := Lib.hid (show Rdr w8 w5.heap.size T 8 from hr8)
  have HG8 := Lib.hid (HG.out.below HB8.out)
  clear hr8 hf8
  go_wp2_with fail
  go_at_call 22
  refine (rtext_short _ 8 T _ HR8.out (by have := Q2.out; have := HKl.out; omega) (by have := Q2.out; have := HKl.out; omega) (by have := Q2.out; have := HKl.out; omega) (by rw [Q4.out (by omega)]; omega) (by rw [Q4.out (by omega)]; have := Q2.out; have := HKl.out; omega)).mono ?_
  rintro e w9 ⟨v, rfl, hc8, hb8⟩
  have HBa := Lib.hid (HB8.out.trans (hb8.mono HB8.out.size))
  have HRr := HR8
  have HC := Lib.hid hc8
  have HGa := Lib.hid (HG.out.below HBa.out)
  have HRa := Lib.hid (HRr.out.below hb8)
  clear hc8 hb8
  go_wp2_with fail
  go_at_call 18
  refine (code_any v [10] _ HGa.out HC.out (by decide)).mono ?_
  rintro e wb ⟨rfl, hbb⟩
  have HBb := Lib.hid (HBa.out.trans (hbb.mono HBa.out.size))
  have HRb := Lib.hid (HRa.out.below hbb)
  have HCb := Lib.hid (HC.out.below hbb)
  have HGb := Lib.hid (HGa.out.below hbb)
  clear hbb
  go_wp2_with fail
  go_at_call 26
  refine (rat _ 8 T _ HRb.out).mono ?_
  rintro e wc ⟨rfl, rfl⟩
  go_wp2_with fail
  go_at_call 28
  refine (chain_any v [10] _ HGb.out HCb.out (by decide)).mono ?_
  rintro e wd ⟨sl, rfl, hown, hbd⟩
  have HBd := Lib.hid (HBb.out.trans (hbd.mono HBb.out.size))
  obtain ⟨g, cap, rfl, _⟩ := hown.form (by decide)
  simp only [List.length_cons, List.length_nil, Nat.zero_add]
  clear hown hbd
  go_wp2
  go_ret
  exact ⟨rfl, HBd.out⟩
end Go.Proofs.YtionhkcbobddjaaDoor
