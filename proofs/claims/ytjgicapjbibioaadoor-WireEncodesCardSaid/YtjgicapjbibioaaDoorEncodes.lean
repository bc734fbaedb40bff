/-
  WireEncodes, walked: it answers true, and nothing that was there turns.
-/
import Derived.Test.YtjgicapjbibioaaDoorWireAny
namespace Go.Proofs.YtjgicapjbibioaaDoor
open Go.RowKit Go.Lib Go.PlainAid

set_option maxRecDepth 100000 in
theorem encodes_out (m : M) (w : World) (hs : 4096 < m.data.size) :
    Calls Tryd.prog 3 #[m.val] w fun e w' => e = .returned (.bool true) ∧ Below w.heap.size w w' := by
  have hsI : (4096 : Int) < (m.data.size : Int) := by omega
  go_enter Tryd.func3, Tryd.ntmps3
  go_wp2
  go_ret
  exact ⟨rfl, by go_grown⟩

set_option maxRecDepth 100000 in
set_option maxHeartbeats 2000000 in
theorem encodes_in (m : M) (w : World) (hT : Tab w) (hg : ErrType w) (hs : m.data.size ≤ 4096) :
    Calls Tryd.prog 3 #[m.val] w fun e w' => e = .returned (.bool true) ∧ Below w.heap.size w w' := by
  have hsI : (m.data.size : Int) ≤ 4096 := by omega
  have hb0 : Below w.heap.size w (w.alloc (.cells m.cells 23)) := (Below.refl _ _).alloc (Nat.le_refl _) _
  have HB0 := Lib.hid hb0
  have HM0 := Lib.hid (Mat.fresh w m 23)
  have HT := Lib.hid hT
  have HG := Lib.hid hg
  clear hb0 hT hg
  go_enter Tryd.func3, Tryd.ntmps3
  go_wp2_with fail
  go_at_call 7
  refine (encode_any m _ (HT.out.below HB0.out)).mono ?_
  rintro e w1 ⟨v, rfl, hc1, hb1⟩
  have HB1 := Lib.hid (HB0.out.trans (hb1.mono HB0.out.size))
  have HM1 := Lib.hid (HM0.out.below hb1)
  have HC1 := Lib.hid hc1
  clear HB0 HM0 hb1 hc1
  obtain ⟨c0, c1, c2, c3, c4, c5, c6, c7⟩ := HM1.out.all
  go_wp2_with fail
  go_at_call 8
  refine (rencode_any m _).mono ?_
  rintro e w2 ⟨rfl, hb2⟩
  have HB2 := Lib.hid (HB1.out.trans (hb2.mono HB1.out.size))
  have HM2 := Lib.hid (HM1.out.below hb2)
  have HC2 := Lib.hid (HC1.out.below hb2)
  clear HB1 HM1 HC1 hb2 c0 c1 c2 c3 c4 c5 c6 c7
  go_wp2_with fail
  go_at_call 9
  refine (code_any v (errOf m.chk) _ (HG.out.below HB2.out) HC2.out (errOf_len _)).mono ?_
  rintro e w3 ⟨rfl, hb3⟩
  rw [errOf_head]
  have HB3 := Lib.hid (HB2.out.trans (hb3.mono HB2.out.size))
  have HM3 := Lib.hid (HM2.out.below hb3)
  have HC3 := Lib.hid (HC2.out.below hb3)
  clear HB2 HM2 HC2 hb3
  obtain ⟨c0, c1, c2, c3, c4, c5, c6, c7⟩ := HM3.out.all
  go_wp2_with fail
  go_at_call 10
  refine (check_any m _).mono ?_
  rintro e w4 ⟨rfl, hb4⟩
  have HB4 := Lib.hid (HB3.out.trans (hb4.mono HB3.out.size))
  have HM4 := Lib.hid (HM3.out.below hb4)
  have HC4 := Lib.hid (HC3.out.below hb4)
  clear HB3 HM3 HC3 hb4 c0 c1 c2 c3 c4 c5 c6 c7
  by_cases hk : m.chk = 0
  · have HDE := Lib.hid (dec_enc hk)
    have HSZ := Lib.hid (encS_size hk)
    obtain rfl : v = .nilIface := by have h := HC4.out; rw [hk] at h; exact h
    rw [hk]
    have hd := fun W h1 h2 => decode_any (encS m) W h1 h2 (by have := HSZ.out; omega)
    rw [HDE.out.1, HDE.out.2] at hd
    have HD := Lib.hid hd
    have hq := msg_same m
    have hlen : (4 : Int) < ((encS m).size : Int) := by have := HSZ.out; omega
    clear hd hk
    generalize encS m = S at *
    go_wp2_with fail
    go_at_call 12
    refine (HD.out _ (HT.out.below HB4.out) (HG.out.below HB4.out)).mono ?_
    rintro e w5 ⟨v5, rfl, hc5, hb5⟩
    obtain rfl : v5 = .nilIface := hc5
    have hbA : Below w5.heap.size w5 (w5.alloc (.cells m.cells 23)) := (Below.refl _ _).alloc (Nat.le_refl _) _
    have HB5 := Lib.hid ((HB4.out.trans (hb5.mono HB4.out.size)))
    have HB6 := Lib.hid (HB5.out.trans (hbA.mono HB5.out.size))
    have HM6 := Lib.hid ((HM4.out.below hb5).below hbA)
    have HN6 := Lib.hid (Mat.fresh w5 m 23)
    clear HB4 HM4 HC4 hb5 hbA HB5 HD
    go_wp2_with fail
    go_at_call 9
    refine (code_any .nilIface [] _ (HG.out.below HB6.out) rfl (by decide)).mono ?_
    rintro e w7 ⟨rfl, hb7⟩
    have HB7 := Lib.hid (HB6.out.trans (hb7.mono HB6.out.size))
    obtain ⟨c0, c1, c2, c3, c4, c5, c6, c7⟩ := (HM6.out.below hb7).all
    obtain ⟨d0, d1, d2, d3, d4, d5, d6, d7⟩ := (HN6.out.below hb7).all
    clear HB6 HM6 HN6 hb7
    go_wp2
    go_ret
    exact ⟨rfl, HB7.out⟩
  · have HC := Lib.hid (show Chained w4 v [m.chk] from by have h := HC4.out; rw [errOf_bad hk] at h; exact h)
    have hk2 : (m.chk == 0) = false := by simpa using hk
    have hk3 : (m.chk != 0) = true := by simpa using hk
    clear HC4 HM4
    go_wp2_with fail
    go_at_call 11
    refine (chain_any v [m.chk] _ (HG.out.below HB4.out) HC.out (by simp)).mono ?_
    rintro e w5 ⟨s5, rfl, hown, hb5⟩
    have HB5 := Lib.hid (HB4.out.trans (hb5.mono HB4.out.size))
    rcases owned_form hown with ⟨_, h, _⟩ | ⟨g, cap, rfl, _⟩
    · simp at h
    · clear hown hb5 HB4 HC
      go_wp2
      go_ret
      exact ⟨rfl, HB5.out⟩
end Go.Proofs.YtjgicapjbibioaaDoor
