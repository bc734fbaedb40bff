/-
  WireDecodes, walked: it answers true, and nothing that was there turns.
-/
import Derived.Test.YtjgicapjbibioaaDoorWireAny
namespace Go.Proofs.YtjgicapjbibioaaDoor
open Go.RowKit Go.Lib Go.PlainAid

set_option maxRecDepth 100000 in
theorem decodes_out (s : ByteArray) (w : World) (hs : 4096 < s.size) :
    Calls Tryd.prog 4 #[.string s] w fun e w' => e = .returned (.bool true) ∧ Below w.heap.size w w' := by
  have hsI : (4096 : Int) < (s.size : Int) := by omega
  go_enter Tryd.func4, Tryd.ntmps4
  go_wp2
  go_ret
  exact ⟨rfl, Below.refl _ _⟩
theorem open_empty : (openOf ⟨#[]⟩).2 = false := by
  unfold openOf
  rw [if_neg]
  rintro ⟨h, _⟩
  exact absurd h (by decide)
theorem dec_empty : decM ⟨#[]⟩ = M.zero ∧ decL ⟨#[]⟩ = [20] := by
  unfold decM decL
  rw [open_empty]
  exact ⟨rfl, rfl⟩

set_option maxRecDepth 100000 in
set_option maxHeartbeats 2000000 in
theorem decodes_in (s : ByteArray) (w : World) (hT : Tab w) (hg : ErrType w) (hs : s.size ≤ 4096) :
    Calls Tryd.prog 4 #[.string s] w fun e w' => e = .returned (.bool true) ∧ Below w.heap.size w w' := by
  have hsI : (s.size : Int) ≤ 4096 := by omega
  have HB0 := Lib.hid (Below.refl w.heap.size w)
  have HT := Lib.hid hT
  have HG := Lib.hid hg
  have HD1 := Lib.hid (fun W h1 h2 => decode_any s W h1 h2 (by omega))
  have HD2 := Lib.hid (fun W => rdecode_any s W (by omega))
  have hd3 := fun W h1 h2 => decode_any ⟨#[]⟩ W h1 h2 (by decide)
  rw [dec_empty.1, dec_empty.2] at hd3
  have HD3 := Lib.hid hd3
  have HJ := Lib.hid (fun h => dec_just (s := s) h)
  have HZ := Lib.hid (fun h => decM_bad (s := s) h)
  have HLN := Lib.hid (decL_len s)
  have HQ := Lib.hid (msg_sameN (decM s))
  clear hT hg hd3
  generalize hmm : decM s = m at *
  generalize hll : decL s = l at *
  clear hmm hll
  go_enter Tryd.func4, Tryd.ntmps4
  go_wp2_with fail
  go_at_call 12
  refine (HD1.out _ HT.out HG.out).mono ?_
  rintro e w1 ⟨v, rfl, hc1, hb1⟩
  have hbA : Below w1.heap.size w1 (w1.alloc (.cells m.cells 23)) := (Below.refl _ _).alloc (Nat.le_refl _) _
  have HB1 := Lib.hid ((HB0.out.trans (hb1.mono HB0.out.size)).trans (hbA.mono hb1.size))
  have HC1 := Lib.hid (hc1.below hbA)
  have HM1 := Lib.hid (Mat.fresh w1 m 23)
  clear HB0 hb1 hc1 hbA HD1
  go_wp2_with fail
  generalize w1.alloc (.cells m.cells 23) = x1 at *
  generalize w1.heap.size = b1 at *
  go_at_call 13
  refine (HD2.out _).mono ?_
  rintro e w2 ⟨A, k, c, rfl, hr2, hb2⟩
  have hbA : Below w2.heap.size w2 (w2.alloc (.cells m.cells 23)) := (Below.refl _ _).alloc (Nat.le_refl _) _
  have hb2' := hb2.trans (hbA.mono hb2.size)
  have HB2 := Lib.hid (HB1.out.trans (hb2'.mono HB1.out.size))
  have HC2 := Lib.hid (HC1.out.below hb2')
  have HM2 := Lib.hid (HM1.out.below hb2')
  have HN2 := Lib.hid (Mat.fresh w2 m 23)
  have HR2 := Lib.hid (hr2.below hbA)
  clear HB1 HC1 HM1 hb2 hb2' hbA hr2 HD2
  go_wp2_with fail
  generalize w2.alloc (.cells m.cells 23) = x2 at *
  generalize w2.heap.size = b2 at *
  go_at_call 12
  refine (HD3.out _ (HT.out.below HB2.out) (HG.out.below HB2.out)).mono ?_
  rintro e w3 ⟨v3, rfl, hc3, hb3⟩
  have hbA : Below w3.heap.size w3 (w3.alloc (.cells M.zero.cells 23)) := (Below.refl _ _).alloc (Nat.le_refl _) _
  have hb3' := hb3.trans (hbA.mono hb3.size)
  have HB3 := Lib.hid (HB2.out.trans (hb3'.mono HB2.out.size))
  have HC3 := Lib.hid (HC2.out.below hb3')
  have HM3 := Lib.hid (HM2.out.below hb3')
  have HN3 := Lib.hid (HN2.out.below hb3')
  have HR3 := Lib.hid (HR2.out.below hb3')
  have HE3 := Lib.hid (hc3.below hbA)
  have hz3 : b1 < w3.heap.size := Nat.lt_of_lt_of_le HM2.out.lt hb3.size
  have hz4 : b2 < w3.heap.size := Nat.lt_of_lt_of_le HN2.out.lt hb3.size
  obtain ⟨c0, c1, c2, c3, c4, c5, c6, c7⟩ := (HM2.out.below hb3).all
  obtain ⟨d0, d1, d2, d3, d4, d5, d6, d7⟩ := (HN2.out.below hb3).all
  have hq := HQ.out
  clear HB2 HC2 HM2 HN2 HR2 hb3 hb3' hbA hc3 HD3
  go_wp2_with fail
  clear c0 c1 c2 c3 c4 c5 c6 c7 d0 d1 d2 d3 d4 d5 d6 d7 hq hz3 hz4
  generalize w3.alloc (.cells M.zero.cells 23) = x3 at *
  go_at_call 11
  refine (chain_any v l _ (HG.out.below HB3.out) HC3.out HLN.out).mono ?_
  rintro e w4 ⟨s4, rfl, hown, hb4⟩
  obtain ⟨A4, c4, rfl, hr4⟩ := RF.of_owned hown
  have HB4 := Lib.hid (HB3.out.trans (hb4.mono HB3.out.size))
  have HM4 := Lib.hid (HM3.out.below hb4)
  have HR4 := Lib.hid (HR3.out.below hb4)
  have HE4 := Lib.hid (HE3.out.below hb4)
  have HS4 := Lib.hid hr4
  clear HB3 HC3 HM3 HN3 HR3 HE3 hown hb4 hr4
  obtain rfl : l.length = k := HR4.out.1
  go_wp2_with fail
  go_at_call 14
  refine (same_yes A4 A l.length c4 c l _ HS4.out HR4.out HLN.out).mono ?_
  rintro e w5 ⟨rfl, hb5⟩
  have HB5 := Lib.hid (HB4.out.trans (hb5.mono HB4.out.size))
  have HM5 := Lib.hid (HM4.out.below hb5)
  have HE5 := Lib.hid (HE4.out.below hb5)
  clear HB4 HM4 HE4 hb5 HS4 HR4
  go_wp2_with fail
  go_at_call 9
  refine (code_any v3 [20] _ (HG.out.below HB5.out) HE5.out (by decide)).mono ?_
  rintro e w6 ⟨rfl, hb6⟩
  have HB6 := Lib.hid (HB5.out.trans (hb6.mono HB5.out.size))
  obtain ⟨c0, c1, c2, c3, c4', c5, c6, c7⟩ := (HM5.out.below hb6).all
  clear HB5 HM5 HE5 hb6
  go_wp2_with fail
  go_at_call 7
  refine (encode_any m _ (HT.out.below HB6.out)).mono ?_
  rintro e w7 ⟨v7, rfl, hc7, hb7⟩
  have HB7 := Lib.hid (HB6.out.trans (hb7.mono HB6.out.size))
  have HC7 := Lib.hid hc7
  clear HB6 hc7 hb7 c0 c1 c2 c3 c4' c5 c6 c7
  by_cases hl : l = []
  · obtain ⟨hS, hk⟩ := HJ.out hl
    subst hl
    rw [hS]
    obtain rfl : v7 = .nilIface := by have h := HC7.out; rw [hk] at h; exact h
    clear HC7 HJ HZ
    go_wp2_with fail
    go_at_call 9
    refine (code_any .nilIface [] _ (HG.out.below HB7.out) rfl (by decide)).mono ?_
    rintro e w8 ⟨rfl, hb8⟩
    have HB8 := Lib.hid (HB7.out.trans (hb8.mono HB7.out.size))
    clear hb8 HB7
    go_wp2
    go_ret
    exact ⟨rfl, HB8.out⟩
  · have hpos : (0 : Int) < (l.length : Int) := by
      have := List.length_pos_iff.2 hl
      omega
    clear HC7 HJ HZ HLN
    go_wp2
    go_ret
    exact ⟨rfl, HB7.out⟩
end Go.Proofs.YtjgicapjbibioaaDoor
