/-
  TimerScript, walked.
-/
import Derived.Test.YtcanagecdniiiaaSteps
import Derived.Deep.RegionWith
namespace Go.Proofs.Ytcanagecdniiiaa
open Go.RowKit

set_option maxRecDepth 100000 in
set_option maxHeartbeats 8000000 in
theorem script_any (A : Option Addr) (n c : Nat) (st : Nat → Stp) (w : World) (hS : Steps w A n st) :
    Calls Try.prog 3 #[.slice A n c] w fun e w' => e = .returned (.bool true) ∧ Below w.heap.size w w' := by
  have HS := Lib.hid hS
  clear hS
  by_cases hn : 300 < n
  · have hnI : (300 : Int) < (n : Int) := by omega
    go_enter Try.func3, Try.ntmps3
    go_wp2
    go_ret
    exact ⟨rfl, Below.refl _ _⟩
  have hnI : ¬ ((300 : Int) < (n : Int)) := by omega
  go_enter Try.func3, Try.ntmps3
  go_wp2_with fail
  go_at_call 8
  refine (new_any _).mono ?_
  rintro e w1 ⟨rfl, k1, k2, k3⟩
  have T1 := Lib.hid (Both.start k1)
  have hbR : Below w1.heap.size w1 (w1.alloc (.cells #[.slice none 0 0] 28)) := (Below.refl _ _).alloc (Nat.le_refl _) _
  have B1' := Lib.hid (k2.trans (hbR.mono k2.size))
  have hz1 : w.heap.size ≤ w1.heap.size := k2.size
  clear k1 k2 k3 hbR
  obtain ⟨mb, hmb⟩ : ∃ mb, w.heap.size = mb := ⟨_, rfl⟩
  obtain ⟨b1, hb1⟩ : ∃ b1, w.heap.size + 1 = b1 := ⟨_, rfl⟩
  have HMB := Lib.hid hmb
  have HB1 := Lib.hid hb1
  rw [hb1] at T1 ⊢
  rw [hmb] at T1
  clear hmb hb1
  go_wp2
  generalize hW2 : w1.alloc (.cells #[.slice none 0 0] 28) = w2 at T1 B1' ⊢
  generalize hb2 : w1.heap.size = b2 at hz1 T1 ⊢
  clear hW2 hb2
  go_loopw [5] (fun iv wr => ∃ (k : Nat) (l : List Al), k ≤ n ∧ iv = .int .i64 k ∧ Both wr b1 mb l b2 l ∧ Below w.heap.size w wr) (fun iv _ => n - (intOf iv).toNat)
  case atStart => exact ⟨0, [], Nat.zero_le _, rfl, T1.out, B1'.out⟩
  case round =>
    obtain ⟨k, l, hk, rfl, hT, hB⟩ := hrel
    have T4 := Lib.hid hT
    have B4 := Lib.hid hB
    clear hT hB T1 B1'
    by_cases hlt : k < n
    · have hlI : (k : Int) < (n : Int) := by omega
      have hkI : (0 : Int) ≤ (k : Int) := by omega
      obtain ⟨b, off, rfl, hat⟩ := HS.out k hlt
      have hbl := hat.lt
      have HAt := Lib.hid (fun W (h : Below w.heap.size w W) => hat.kept (w' := W) (fun o => h.cell (p := ⟨b, o, none⟩) hbl))
      have hbd : Below wr.heap.size wr wr.drew := (Below.refl _ _).drew
      have Tz := Lib.hid (T4.out.below hbd)
      have Bz := Lib.hid (B4.out.trans (hbd.mono B4.out.size))
      obtain ⟨c0, c1, c2, c3, -, -⟩ := HAt.out wr.drew Bz.out
      have HD := Lib.hid (does_same b1 mb b2 l (st k) wr.drew Tz.out hat.wn hat.wt)
      generalize hkl : nxt l (st k) = kl at HD
      generalize st k = o at HD c0 c1 c2 c3 HAt
      have HN1 := Lib.hid (fun W (h : Tms W b1 mb kl) => next_any b1 mb kl o.a.n W h)
      have HN2 := Lib.hid (fun W (h : Rf W b2 kl) (hl : kl.length ≤ 1000) => rnext_any b2 kl o.a.n W h hl)
      generalize nextA kl o.a.n = na at HN1 HN2
      generalize nextB kl o.a.n = nb at HN1 HN2
      clear hat hbd hkl
      go_wp2_with fail
      go_region_with (first
        | (go_at_call 9; refine HD.out.mono ?_; rintro e wb ⟨rfl, k1, k2⟩; have Tb := Lib.hid k1; have Bb := Lib.hid (k2.below Bz.out Bz.out.size (Nat.le_of_eq HMB.out) hz1); (obtain ⟨sb, hsb, -, hob, -⟩ := k1.rf.open'); have Ob := Lib.hid hob; clear k1 k2 hob)
        | (go_at_call 12; refine (list_any _ _ kl _ Tb.out.tms).mono ?_; rintro e wc ⟨v, rfl, k1, k2⟩; have Tc := Lib.hid (Tb.out.below k2); have Bc := Lib.hid (Bb.out.trans (k2.mono Bb.out.size)); (have hsc := (k2.cell (p := ⟨b2, 0, none⟩) Tb.out.rf.lt).trans hsb); have Oc := Lib.hid (Ob.out.below k2); have Vc := Lib.hid k1; clear k1 k2)
        | (go_at_call 11; refine (theirs_any _ _ kl _ Vc.out (by have := Tc.out.good.le; omega)).mono ?_; rintro e wd ⟨v2, rfl, k1, k2⟩; have Td := Lib.hid (Tc.out.below k2); have Bd := Lib.hid (Bc.out.trans (k2.mono Bc.out.size)); (have hsd := (k2.cell (p := ⟨b2, 0, none⟩) Tc.out.rf.lt).trans hsc); have Od := Lib.hid (Oc.out.below k2); have Vd := Lib.hid k1; clear k1 k2)
        | (go_at_call 10; refine (same_any _ _ _ _ kl kl _ Vd.out Od.out (by have := Td.out.good.le; omega)).mono ?_; rintro e we ⟨rfl, k2⟩; rw [decide_eq_true rfl]; have Te := Lib.hid (Td.out.below k2); have Be := Lib.hid (Bd.out.trans (k2.mono Bd.out.size)); clear k2)
        | fail)
      all_goals
        clear c0 c1 c2 c3 HD hsb hsc hsd
        obtain ⟨c0, c1, c2, c3, -, -⟩ := HAt.out we Be.out
        have hbe : b < we.heap.size := by have := Be.out.size; omega
        have hq := fun w => (decide_eq_true (rfl : na = na)) ▸ al_neq40 na na w
        simp only [Bool.not_true] at hq
        go_wp2_with (first
          | (go_at_call 13; refine (HN1.out _ Te.out.tms).mono ?_; rintro e wf ⟨rfl, k1⟩; have hba := (k1.mono (Nat.le_refl _)).trans (((Below.refl wf.heap.size wf).alloc (Nat.le_refl _) (.cells na.cells 31)).mono k1.size); have Xf := Lib.hid (AB.fresh 31 wf na); have Tf := Lib.hid (Te.out.below hba); have Bf := Lib.hid (Be.out.trans (hba.mono Be.out.size)); (have hbf : b < wf.heap.size := by have := k1.size; omega); (obtain ⟨d0, d1, d2, d3, -, -⟩ := HAt.out wf (Be.out.trans (k1.mono Be.out.size))); clear k1 hba)
          | (go_at_call 14; refine (HN2.out _ Tf.out.rf (by have := Tf.out.good.le; omega)).mono ?_; rintro e wg ⟨rfl, k1⟩; (obtain ⟨f0, f1, f2⟩ := (Xf.out.below k1).all); have hfg := (Xf.out.below k1).lt; have hba := (k1.mono (Nat.le_refl _)).trans (((Below.refl wg.heap.size wg).alloc (Nat.le_refl _) (.cells na.cells 40)).mono k1.size); have Tg := Lib.hid (Tf.out.below hba); have Bg := Lib.hid (Bf.out.trans (hba.mono Bf.out.size)); clear hba)
          | fail)
        go_roundw
        case rel => exact ⟨k + 1, kl, by omega, by go_num, Tg.out, Bg.out⟩
        case measure => simp [intOf]; omega
    · have hlI : ¬ ((k : Int) < (n : Int)) := by omega
      go_wp2_with fail
      go_at_call 15
      refine (shown_any _).mono ?_
      rintro e wa ⟨rfl, k1⟩
      have Ba := Lib.hid (B4.out.trans (k1.mono B4.out.size))
      clear k1
      go_wp2
      go_ret
      exact ⟨rfl, Ba.out⟩
end Go.Proofs.Ytcanagecdniiiaa
