/-
  WireApart, walked: it answers true, and nothing that was there turns.
-/
import Derived.Test.YtjgicapjbibioaaDoorWireAny
namespace Go.Proofs.YtjgicapjbibioaaDoor
open Go.RowKit Go.Lib Go.PlainAid

/-- A text of one byte. -/
def oneB (m : Int) : ByteArray := strOfNums [m]
theorem oneB_size (m : Int) : (oneB m).size = 1 := rfl
theorem conv1 (m : Int) (t : TypeId) (w : World) :
    (convert 42 9 (.slice (some ⟨w.heap.size, 0, none⟩) 1 1)).run Tryd.prog (w.alloc (.cells #[.int .u8 m] t)) = .ok (.string (oneB m)) (w.alloc (.cells #[.int .u8 m] t)) :=
  run_convert_bytes_arg _ 42 5 Tryd.underlying42 Tryd.underlying5 w.heap.size 0 1 1 [m] rfl (fun i hi => by
    obtain rfl : i = 0 := by omega
    simp) 9 Tryd.underlying9

set_option maxRecDepth 100000 in
theorem apart_out1 (m n : M) (y : Int) (w : World) (hs : 2048 < m.data.size) :
    Calls Tryd.prog 6 #[m.val, n.val, .int .u8 y] w fun e w' => e = .returned (.bool true) ∧ Below w.heap.size w w' := by
  have hsI : (2048 : Int) < (m.data.size : Int) := by omega
  go_enter Tryd.func6, Tryd.ntmps6
  go_wp2
  go_ret
  exact ⟨rfl, by go_grown⟩
set_option maxRecDepth 100000 in
theorem apart_out2 (m n : M) (y : Int) (w : World) (hs1 : m.data.size ≤ 2048) (hs : 2048 < n.data.size) :
    Calls Tryd.prog 6 #[m.val, n.val, .int .u8 y] w fun e w' => e = .returned (.bool true) ∧ Below w.heap.size w w' := by
  have hsI1 : (m.data.size : Int) ≤ 2048 := by omega
  have hsI : (2048 : Int) < (n.data.size : Int) := by omega
  go_enter Tryd.func6, Tryd.ntmps6
  go_wp2
  go_ret
  exact ⟨rfl, by go_grown⟩

/-- Two messages have the same bytes only if they are the same. -/
theorem encS_inj {m n : M} (hm : m.chk = 0) (hn : n.chk = 0) (h : encS m = encS n) : m = n := by
  have h1 := (dec_enc hm).1
  have h2 := (dec_enc hn).1
  rw [h] at h1
  exact h1.symm.trans h2

set_option maxRecDepth 100000 in
set_option maxHeartbeats 4000000 in
theorem apart_in (m n : M) (y : Int) (w : World) (hT : Tab w) (hg : ErrType w) (hs1 : m.data.size ≤ 2048) (hs2 : n.data.size ≤ 2048) :
    Calls Tryd.prog 6 #[m.val, n.val, .int .u8 y] w fun e w' => e = .returned (.bool true) ∧ Below w.heap.size w w' := by
  have hsI1 : (m.data.size : Int) ≤ 2048 := by omega
  have hsI2 : (n.data.size : Int) ≤ 2048 := by omega
  have hbA : Below w.heap.size w (w.alloc (.cells m.cells 23)) := (Below.refl _ _).alloc (Nat.le_refl _) _
  have hbB : Below (w.alloc (.cells m.cells 23)).heap.size (w.alloc (.cells m.cells 23)) ((w.alloc (.cells m.cells 23)).alloc (.cells n.cells 23)) := (Below.refl _ _).alloc (Nat.le_refl _) _
  have HB0 := Lib.hid (hbA.trans (hbB.mono (by simp)))
  have HM0 := Lib.hid ((Mat.fresh w m 23).below hbB)
  have HN0 := Lib.hid (show Mat ((w.alloc (.cells m.cells 23)).alloc (.cells n.cells 23)) (w.heap.size + 1) n from by
    have h := Mat.fresh (w.alloc (.cells m.cells 23)) n 23
    have e : (w.alloc (.cells m.cells 23)).heap.size = w.heap.size + 1 := by simp
    rw [e] at h; exact h)
  have HT := Lib.hid hT
  have HG := Lib.hid hg
  clear hbA hbB hT hg
  go_enter Tryd.func6, Tryd.ntmps6
  go_wp2_with fail
  generalize (w.alloc (.cells m.cells 23)).alloc (.cells n.cells 23) = x0 at HB0 HM0 HN0 ⊢
  go_at_call 7
  refine (encode_any m _ (HT.out.below HB0.out)).mono ?_
  rintro e w1 ⟨v, rfl, hc1, hb1⟩
  have HB1 := Lib.hid (HB0.out.trans (hb1.mono HB0.out.size))
  have HM1 := Lib.hid (HM0.out.below hb1)
  have HN1 := Lib.hid (HN0.out.below hb1)
  have HC1 := Lib.hid hc1
  clear HB0 HM0 HN0 hb1 hc1
  obtain ⟨c0, c1, c2, c3, c4, c5, c6, c7⟩ := HN1.out.all
  go_wp2_with fail
  go_at_call 7
  refine (encode_any n _ (HT.out.below HB1.out)).mono ?_
  rintro e w2 ⟨u, rfl, hc2, hb2⟩
  have HB2 := Lib.hid (HB1.out.trans (hb2.mono HB1.out.size))
  have HM2 := Lib.hid (HM1.out.below hb2)
  have HN2 := Lib.hid (HN1.out.below hb2)
  have HC2 := Lib.hid (HC1.out.below hb2)
  have HE2 := Lib.hid hc2
  clear HB1 HM1 HN1 HC1 hb2 hc2 c0 c1 c2 c3 c4 c5 c6 c7
  obtain ⟨c0, c1, c2, c3, c4, c5, c6, c7⟩ := HM2.out.all
  go_wp2_with fail
  go_at_call 8
  refine (rencode_any m _).mono ?_
  rintro e w3 ⟨rfl, hb3⟩
  have HB3 := Lib.hid (HB2.out.trans (hb3.mono HB2.out.size))
  have HM3 := Lib.hid (HM2.out.below hb3)
  have HN3 := Lib.hid (HN2.out.below hb3)
  have HC3 := Lib.hid (HC2.out.below hb3)
  have HE3 := Lib.hid (HE2.out.below hb3)
  clear HB2 HM2 HN2 HC2 HE2 hb3 c0 c1 c2 c3 c4 c5 c6 c7
  go_wp2_with fail
  go_at_call 9
  refine (code_any v (errOf m.chk) _ (HG.out.below HB3.out) HC3.out (errOf_len _)).mono ?_
  rintro e w4 ⟨rfl, hb4⟩
  rw [errOf_head]
  have HB4 := Lib.hid (HB3.out.trans (hb4.mono HB3.out.size))
  have HM4 := Lib.hid (HM3.out.below hb4)
  have HN4 := Lib.hid (HN3.out.below hb4)
  have HC4 := Lib.hid (HC3.out.below hb4)
  have HE4 := Lib.hid (HE3.out.below hb4)
  clear HB3 HM3 HN3 HC3 HE3 hb4
  go_wp2_with fail
  go_at_call 9
  refine (code_any v (errOf m.chk) _ (HG.out.below HB4.out) HC4.out (errOf_len _)).mono ?_
  rintro e w5 ⟨rfl, hb5⟩
  rw [errOf_head]
  have HB5 := Lib.hid (HB4.out.trans (hb5.mono HB4.out.size))
  have HM5 := Lib.hid (HM4.out.below hb5)
  have HN5 := Lib.hid (HN4.out.below hb5)
  have HE5 := Lib.hid (HE4.out.below hb5)
  clear HB4 HM4 HN4 HC4 HE4 hb5
  by_cases hm : m.chk = 0
  · rw [hm]
    go_wp2_with fail
    go_at_call 9
    refine (code_any u (errOf n.chk) _ (HG.out.below HB5.out) HE5.out (errOf_len _)).mono ?_
    rintro e w6 ⟨rfl, hb6⟩
    rw [errOf_head]
    have HB6 := Lib.hid (HB5.out.trans (hb6.mono HB5.out.size))
    have HM6 := Lib.hid (HM5.out.below hb6)
    have HN6 := Lib.hid (HN5.out.below hb6)
    clear HB5 HM5 HN5 HE5 hb6
    by_cases hn : n.chk = 0
    · rw [hn]
      have HSZ := Lib.hid (encS_size hm)
      have HIJ := Lib.hid (fun h => encS_inj hm hn h)
      obtain ⟨S, hS⟩ : ∃ S, encS m = S := ⟨_, rfl⟩
      obtain ⟨T, hTT⟩ : ∃ T, encS n = T := ⟨_, rfl⟩
      rw [hS, hTT]
      have hSs : S.size ≤ 2100 := by have := HSZ.out; rw [hS] at this; omega
      have HV := Lib.hid (show (S ++ oneB y).size ≤ 1000000 by rw [ByteArray.size_append, oneB_size]; omega)
      obtain ⟨V, hV⟩ : ∃ V, S ++ oneB y = V := ⟨_, rfl⟩
      rw [hV] at HV
      have HVV := Lib.hid hV
      have hcv := conv1 y 5 w6
      have h1 : (oneB y).size ≤ 1 := Nat.le_of_eq (oneB_size y)
      have hbX : Below w6.heap.size w6 (w6.alloc (.cells #[.int .u8 y] 5)) := (Below.refl _ _).alloc (Nat.le_refl _) _
      have HB7 := Lib.hid (HB6.out.trans (hbX.mono HB6.out.size))
      have HM7 := Lib.hid (HM6.out.below hbX)
      have HN7 := Lib.hid (HN6.out.below hbX)
      have HDL := Lib.hid (decL_len V)
      have HR := Lib.hid (fun W => rdecode_any V W HV.out)
      have HD := Lib.hid (fun W a b => decode_any V W a b HV.out)
      have HQ := Lib.hid (msg_same (decM V))
      have HEQ := Lib.hid (show (m = n ∧ S = T) ∨ (m ≠ n ∧ S ≠ T) from by
        by_cases e : m = n
        · exact .inl ⟨e, by rw [← hS, ← hTT, e]⟩
        · exact .inr ⟨e, fun h => e (HIJ.out (by rw [hS, hTT, h]))⟩)
      generalize decM V = d at *
      generalize decL V = l at *
      clear HB6 HM6 HN6 HSZ HIJ hbX hS hTT hm hn
      go_wp2_with fail
      clear hcv
      generalize w6.alloc (.cells #[.int .u8 y] 5) = x7 at *
      go_at_call 13
      refine (HR.out _).mono ?_
      rintro e w8 ⟨A, k, c, rfl, hr8, hb8⟩
      have hbY : Below w8.heap.size w8 (w8.alloc (.cells d.cells 23)) := (Below.refl _ _).alloc (Nat.le_refl _) _
      have hb8' := hb8.trans (hbY.mono hb8.size)
      have HB8 := Lib.hid (HB7.out.trans (hb8'.mono HB7.out.size))
      have HM8 := Lib.hid (HM7.out.below hb8')
      have HN8 := Lib.hid (HN7.out.below hb8')
      have HR8 := Lib.hid (hr8.below hbY)
      have HX8 := Lib.hid (Mat.fresh w8 d 23)
      clear HB7 HM7 HN7 hb8 hb8' hbY hr8 HR
      have hcv := conv1 y 5 (w8.alloc (.cells d.cells 23))
      rw [show (w8.alloc (.cells d.cells 23)).heap.size = w8.heap.size + 1 from by simp] at hcv
      go_wp2_with fail
      clear hcv hV
      have hbX : Below (w8.alloc (.cells d.cells 23)).heap.size (w8.alloc (.cells d.cells 23)) ((w8.alloc (.cells d.cells 23)).alloc (.cells #[.int .u8 y] 5)) := (Below.refl _ _).alloc (Nat.le_refl _) _
      have HB9 := Lib.hid (HB8.out.trans (hbX.mono HB8.out.size))
      have HM9 := Lib.hid (HM8.out.below hbX)
      have HN9 := Lib.hid (HN8.out.below hbX)
      have HX9 := Lib.hid (HX8.out.below hbX)
      have HR9 := Lib.hid (HR8.out.below hbX)
      clear HB8 HM8 HN8 HX8 HR8 hbX
      generalize (w8.alloc (.cells d.cells 23)).alloc (.cells #[.int .u8 y] 5) = x9 at *
      generalize w8.heap.size = b8 at *
      go_at_call 12
      refine (HD.out _ (HT.out.below HB9.out) (HG.out.below HB9.out)).mono ?_
      rintro e wA ⟨vA, rfl, hcA, hbA⟩
      have hbY : Below wA.heap.size wA (wA.alloc (.cells d.cells 23)) := (Below.refl _ _).alloc (Nat.le_refl _) _
      have hbA' := hbA.trans (hbY.mono hbA.size)
      have HBA := Lib.hid (HB9.out.trans (hbA'.mono HB9.out.size))
      have HRA := Lib.hid (HR9.out.below hbA')
      have HCA := Lib.hid (hcA.below hbY)
      have HMA := Lib.hid (HM9.out.below hbA)
      have HNA := Lib.hid (HN9.out.below hbA)
      have HXA := Lib.hid (HX9.out.below hbA)
      have hl1 := HMA.out.lt
      have hl2 := HNA.out.lt
      have hl3 := HXA.out.lt
      clear HB9 HM9 HN9 HX9 HR9 hbA hbA' hbY hcA HD
      obtain ⟨c0, c1, c2, c3, c4, c5, c6, c7⟩ := HMA.out.all
      obtain ⟨d0, d1, d2, d3, d4, d5, d6, d7⟩ := HNA.out.all
      obtain ⟨e0, e1, e2, e3, e4, e5, e6, e7⟩ := HXA.out.all
      have hq := HQ.out
      have HQT := Lib.hid (show (∀ W, ∃ bb, (binOp .eql 23 m.val n.val).run Tryd.prog W = .ok (.bool bb) W ∧ (S.toList == T.toList) = bb) from fun W => by
        rcases HEQ.out with ⟨e1, e2⟩ | ⟨e1, e2⟩
        · exact ⟨true, by rw [← e1]; exact msg_same m W, str_eq e2⟩
        · exact ⟨false, msg_other m n W e1, str_ne e2⟩)
      obtain ⟨bb, hqb⟩ : ∃ bb, (∀ W, (binOp .eql 23 m.val n.val).run Tryd.prog W = .ok (.bool bb) W) ∧ (S.toList == T.toList) = bb := by
        obtain ⟨bb, _, h2⟩ := HQT.out w
        refine ⟨bb, fun W => ?_, h2⟩
        obtain ⟨b2, h3, h4⟩ := HQT.out W
        rw [h3, ← h4, h2]
      obtain ⟨hqm, hqs⟩ := hqb
      clear HQT HEQ HMA HNA HXA
      go_wp2_with fail
      clear c0 c1 c2 c3 c4 c5 c6 c7 d0 d1 d2 d3 d4 d5 d6 d7 e0 e1 e2 e3 e4 e5 e6 e7 hq hqm hqs hl1 hl2 hl3
      generalize wA.alloc (.cells d.cells 23) = xA at *
      go_at_call 11
      refine (chain_any vA l _ (HG.out.below HBA.out) HCA.out HDL.out).mono ?_
      rintro e wB ⟨s4, rfl, hown, hb4⟩
      obtain ⟨A4, c4, rfl, hr4⟩ := RF.of_owned hown
      have HBB := Lib.hid (HBA.out.trans (hb4.mono HBA.out.size))
      have HRB := Lib.hid (HRA.out.below hb4)
      have HSB := Lib.hid hr4
      clear HBA HRA HCA hown hb4 hr4
      obtain rfl : l.length = k := HRB.out.1
      go_wp2_with fail
      go_at_call 14
      refine (same_yes A4 A l.length c4 c l _ HSB.out HRB.out HDL.out).mono ?_
      rintro e wC ⟨rfl, hbC⟩
      have HBC := Lib.hid (HBB.out.trans (hbC.mono HBB.out.size))
      clear HBB hbC HSB HRB
      go_wp2
      go_ret
      exact ⟨rfl, HBC.out⟩
    · have hn2 : (n.chk == 0) = false := by simpa using hn
      have hn3 : (n.chk != 0) = true := by simpa using hn
      rw [encS_bad hn]
      clear HM6 HN6
      generalize encS m = S at *
      go_wp2
      all_goals go_ret
      all_goals exact ⟨rfl, HB6.out⟩
  · have hm2 : (m.chk == 0) = false := by simpa using hm
    have hm3 : (m.chk != 0) = true := by simpa using hm
    rw [encS_bad hm]
    clear HM5 HN5 HE5
    go_wp2
    go_ret
    exact ⟨rfl, HB5.out⟩
end Go.Proofs.YtjgicapjbibioaaDoor
