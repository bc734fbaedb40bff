/-
  BagFull, walked.
-/
import Derived.Test.YthcoghgpdcnhlaaStart
namespace Go.Proofs.Ythcoghgpdcnhlaa
open Go.RowKit

set_option maxRecDepth 100000 in
theorem full_out (m : M) (q : Int) (w : World) (hs : 256 < m.data.size) :
    Calls Try.prog 6 #[m.val, .int .u8 q] w fun e w' => e = .returned (.bool true) ∧ Below w.heap.size w w' := by
  have hsI : (256 : Int) < (m.data.size : Int) := by omega
  go_enter Try.func6, Try.ntmps6
  go_wp2
  go_ret
  exact ⟨rfl, by go_grown⟩

set_option maxRecDepth 100000 in
set_option maxHeartbeats 4000000 in
theorem full_in (m : M) (q : Int) (w : World) (hs : m.data.size ≤ 256) (hq0 : 0 ≤ q) (hq1 : q ≤ 255) :
    Calls Try.prog 6 #[m.val, .int .u8 q] w fun e w' => e = .returned (.bool true) ∧ Below w.heap.size w w' := by
  have hsI : (m.data.size : Int) ≤ 256 := by omega
  have hb0 : Below w.heap.size w (w.alloc (.cells m.cells 31)) := (Below.refl _ _).alloc (Nat.le_refl _) _
  have HB0 := Lib.hid hb0
  have HM0 := Lib.hid (Mat.fresh w m 31)
  have hz0 : w.heap.size < (w.alloc (.cells m.cells 31)).heap.size := by simp
  clear hb0
  go_enter Try.func6, Try.ntmps6
  go_wp2_with fail
  go_at_call 10
  refine (new_any _).mono ?_
  rintro e w1 ⟨rfl, hB1, hb1, hz1⟩
  have T1 := Lib.hid (Two.start (t := 29) hB1)
  have hbR : Below w1.heap.size w1 (w1.alloc (.cells #[.slice none 0 0] 29)) := (Below.refl _ _).alloc (Nat.le_refl _) _
  have M1 := Lib.hid ((HM0.out.below hb1).below hbR)
  have B1' := Lib.hid ((HB0.out.trans (hb1.mono HB0.out.size)).trans (hbR.mono (Nat.le_trans HB0.out.size hb1.size)))
  clear hB1 hb1 hbR HM0 HB0
  generalize (w.alloc (.cells m.cells 31)).heap.size = b1 at hz0 hz1 T1 ⊢
  go_wp2_with fail
  generalize w1.alloc (.cells #[.slice none 0 0] 29) = w2 at T1 M1 B1' ⊢
  generalize w1.heap.size = b2 at hz1 T1 ⊢
  obtain ⟨N, hN⟩ : ∃ N : Nat, q.tmod 80 = (N : Int) := ⟨(q.tmod 80).toNat, by rw [Int.tmod_eq_emod_of_nonneg hq0]; omega⟩
  have hN80 : N < 80 := by rw [Int.tmod_eq_emod_of_nonneg hq0] at hN; omega
  have hN2 : q % 80 = (N : Int) := by rw [Int.tmod_eq_emod_of_nonneg hq0] at hN; exact hN
  go_loopw [7] (fun iv wr => ∃ (k : Nat) (r1 r2 : Option Nat) (l : List M), k ≤ N ∧ iv = .int .i64 k ∧ Two wr b1 r1 l b2 r2 l ∧ Fit l ∧ Mat wr w.heap.size m ∧ Below w.heap.size w wr) (fun iv _ => N - (intOf iv).toNat)
  case atStart => exact ⟨0, none, none, [], Nat.zero_le _, rfl, T1.out, Fit.nil, M1.out, B1'.out⟩
  case round =>
    obtain ⟨k, r1, r2, l, hk, rfl, hT, hF, hM, hB⟩ := hrel
    have T2 := Lib.hid hT
    have F2 := Lib.hid hF
    have M2 := Lib.hid hM
    have B2 := Lib.hid hB
    have hl := hF.le
    obtain ⟨c0, c1, c2, c3, c4, c5, c6, c7⟩ := hM.all
    clear hT hF hM hB
    by_cases hlt : k < N
    · have hlI : (k : Int) < (N : Int) := by omega
      have HS2 := Lib.hid (fun W r (h : Bg W b2 r l) => rsend_any b2 r l m W h (by omega))
      have HS1 := Lib.hid (send_any b1 r1 l m wr T2.out.1 (by omega))
      have FN := Lib.hid (F2.out.send m)
      generalize sendE l m = x at HS1 HS2
      generalize sendL l m = kl at HS1 HS2 FN
      have hkl := FN.out.le
      go_wp2_with fail
      go_at_call 18
      refine HS1.out.mono ?_
      rintro e wa ⟨rfl, ra, k1, k2, k3⟩
      have Ta := Lib.hid (T2.out.step k1 k2 k3)
      have Ma := Lib.hid (M2.out.fr k3 (by omega) (fun e => by have := (T2.out.1.row_lt e.symm).1; omega))
      have Ba := Lib.hid (B2.out.trans (k3.belowB T2.out.1 (by omega)))
      clear k1 k2 k3 c0 c1 c2 c3 c4 c5 c6 c7
      go_wp2_with fail
      have hbd : Below wa.heap.size wa wa.drew := (Below.refl _ _).drew
      have Tz := Lib.hid (Ta.out.below hbd)
      have Mz := Lib.hid (Ma.out.below hbd)
      have Bz := Lib.hid (Ba.out.trans (hbd.mono Ba.out.size))
      obtain ⟨c0, c1, c2, c3, c4, c5, c6, c7⟩ := Mz.out.all
      clear hbd
      go_region_with (first
        | (go_at_call 24; refine (HS2.out _ _ Tz.out.swap.1).mono ?_; rintro e wb ⟨rfl, rb, k1, k2, k3⟩; have Tb := Lib.hid (Tz.out.swap.step k1 k2 k3).swap; have Mb := Lib.hid (Mz.out.fr k3 (by omega) (fun e => by have := (Tz.out.swap.1.row_lt e.symm).1; omega)); have Bb := Lib.hid (Bz.out.trans (k3.belowB Tz.out.swap.1 (by omega))); clear k1 k2 k3; (obtain ⟨sb, hsb, -, hob, -⟩ := Tb.out.swap.1); (obtain ⟨Ab, cb, rfl, -⟩ := hob.look); clear hob)
        | (go_at_call 14; refine (list_any _ _ kl _ Tb.out.1 (by omega)).mono ?_; rintro e wc ⟨v, rfl, k1, k2⟩; have Tc := Lib.hid (Tb.out.below k2); have Mc := Lib.hid (Mb.out.below k2); have Bc := Lib.hid (Bb.out.trans (k2.mono Bb.out.size)); (obtain ⟨Ac, cc, rfl, -⟩ := k1.look); (have hsc := (k2.cell (p := ⟨b2, 0, none⟩) Tb.out.swap.1.lt).trans hsb); clear k1 k2)
        | fail)
      all_goals
        go_wp2
        go_roundw
        case rel => exact ⟨k + 1, _, _, kl, by omega, by go_num, Tc.out, FN.out, Mc.out, Bc.out⟩
        case measure => simp [intOf]; omega
    · have hlI : ¬ ((k : Int) < (N : Int)) := by omega
      have HS2 := Lib.hid (fun W r (h : Bg W b2 r l) => rtwice_any b2 r l 0 W h F2.out)
      have HS1 := Lib.hid (twice_any b1 r1 l 0 wr T2.out.1 (by omega))
      have FN := Lib.hid (F2.out.twice 0)
      generalize twE l 0 = x at HS1 HS2
      generalize twL l 0 = kl at HS1 HS2 FN
      have hkl := FN.out.le
      clear c0 c1 c2 c3 c4 c5 c6 c7
      go_wp2_with fail
      go_at_call 19
      refine HS1.out.mono ?_
      rintro e wa ⟨rfl, ra, k1, k2, k3⟩
      have Ta := Lib.hid (T2.out.step k1 k2 k3)
      have Ba := Lib.hid (B2.out.trans (k3.belowB T2.out.1 (by omega)))
      clear k1 k2 k3
      go_wp2_with fail
      go_at_call 10
      refine (new_any _).mono ?_
      rintro e wn ⟨rfl, hBn, hbn, hzn⟩
      go_wp2_with fail
      go_at_call 11
      refine (take_new _ _ _ hBn).mono ?_
      rintro e wt ⟨rfl, hft⟩
      have hbt : Below wa.heap.size wa (wt.alloc (.cells M.zero.cells 31)) := (Fr.new_below hbn hft (Nat.le_refl _) rfl).alloc (Fr.new_below hbn hft (Nat.le_refl _) rfl).size _
      have Tt := Lib.hid (Ta.out.below hbt)
      have Bt := Lib.hid (Ba.out.trans (hbt.mono Ba.out.size))
      clear hBn hbn hzn hft hbt
      go_wp2_with fail
      generalize wt.alloc (.cells M.zero.cells 31) = wu at Tt Bt ⊢
      have hbd : Below wu.heap.size wu wu.drew := (Below.refl _ _).drew
      have Tz := Lib.hid (Tt.out.below hbd)
      have Bz := Lib.hid (Bt.out.trans (hbd.mono Bt.out.size))
      clear hbd
      go_region_with (first
        | (go_at_call 25; refine (HS2.out _ _ Tz.out.swap.1).mono ?_; rintro e wb ⟨rfl, rb, k1, k2, k3⟩; have Tb := Lib.hid (Tz.out.swap.step k1 k2 k3).swap; have Bb := Lib.hid (Bz.out.trans (k3.belowB Tz.out.swap.1 (by omega))); clear k1 k2 k3; (obtain ⟨sb, hsb, -, hob, -⟩ := Tb.out.swap.1); have Ob := Lib.hid hob; clear hob)
        | (go_at_call 14; refine (list_any _ _ kl _ Tb.out.1 (by omega)).mono ?_; rintro e wc ⟨v, rfl, k1, k2⟩; have Bc := Lib.hid (Bb.out.trans (k2.mono Bb.out.size)); (have hsc := (k2.cell (p := ⟨b2, 0, none⟩) Tb.out.swap.1.lt).trans hsb); have Oc := Lib.hid (Ob.out.below k2); have Vc := Lib.hid k1; clear k1 k2)
        | (go_at_call 13; refine (same_yes _ _ _ _ kl _ Vc.out Oc.out (by omega)).mono ?_; rintro e wd ⟨rfl, k2⟩; have Bd := Lib.hid (Bc.out.trans (k2.mono Bc.out.size)); clear k2)
        | fail)
      all_goals
        go_wp2
        go_ret
        exact ⟨rfl, Bd.out⟩
end Go.Proofs.Ythcoghgpdcnhlaa
