/-
  BallotOld (weirkeeplaw10), walked.
-/
import Derived.Test.YtacbodojbekeeaaDoorBoth10
import Derived.BigQuiet
import Derived.Deep.LoopGhost
import Derived.Deep.CutBlock
import Derived.Deep.DeepCutAuto
namespace Go.Proofs.YtacbodojbekeeaaDoor
open Go.RowKit

theorem from_ins {lo : Int} {l : List V} (h : Srt lo l) (v : V) : ∃ rest, from_ (ins v l) v.s = v :: rest := by
  induction l generalizing lo with
  | nil => exact ⟨[], by simp [ins, from_]⟩
  | cons u l ih =>
    rw [ins]
    by_cases h1 : u.s < v.s
    · rw [if_pos h1]
      obtain ⟨rest, hr⟩ := ih h.2.2
      refine ⟨rest, ?_⟩
      unfold from_ at hr ⊢
      rw [List.filter_cons_of_neg (by simp; omega)]
      exact hr
    · rw [if_neg h1]
      split
      · exact ⟨l.filter _, by unfold from_; rw [List.filter_cons_of_pos (by simp)]⟩
      · exact ⟨(u :: l).filter _, by unfold from_; rw [List.filter_cons_of_pos (by simp)]⟩

set_option maxRecDepth 100000 in
set_option maxHeartbeats 8000000 in
theorem ballotOld_any (A : Option Addr) (n c : Nat) (st : Nat → Stp) (b sl : Int) (x : ByteArray) (w : World) (hT : Tab w) (hE : ErrType w) (hS : SIn w A n st) (hn : n ≤ 9223372036854775807) :
    Calls Tryd.prog 7 #[.slice A n c, .int .i64 b, .int .i64 sl, .string x] w fun e w' => e = .returned (.bool true) ∧ Below w.heap.size w w' := by
  have HH := Lib.hid (heavy_any (c := c) hS hn)
  have HSh := Lib.hid (fun (W : World) (hb : Below w.heap.size w W) => shown_any W (hT.below hb) (hE.kept (hb.block _ hE.lt)))
  have HB := Lib.hid hS
  clear hT hE hS
  go_enter Tryd.func7, Tryd.ntmps7
  go_wp2_with fail
  go_at_call 9
  refine HH.out.mono ?_
  rintro e w0 ⟨hv, rfl, rfl, hno⟩
  clear HH
  cases hv with
  | true =>
    clear hno
    go_wp2_with (go_at_call 10; refine (HSh.out _ (Below.refl _ _)).mono ?_; rintro e w' ⟨rfl, hb⟩; have HBs := Lib.hid hb; clear hb)
    go_ret
    exact ⟨rfl, HBs.out⟩
  | false =>
    have hn100 := hno rfl
    clear hno
    by_cases hx : 1024 < x.size
    · have hxI : (1024 : Int) < (x.size : Int) := by omega
      go_wp2_with (go_at_call 10; refine (HSh.out _ (Below.refl _ _)).mono ?_; rintro e w' ⟨rfl, hb⟩; have HBs := Lib.hid hb; clear hb)
      go_ret
      exact ⟨rfl, HBs.out⟩
    have hxI : ¬ (1024 : Int) < (x.size : Int) := by omega
    go_wp2_with fail
    go_at_call 10
    refine (HSh.out _ (Below.refl _ _)).mono ?_
    rintro e w1 ⟨rfl, hb1⟩
    have HB1 := Lib.hid hb1
    clear hb1 HSh
    go_wp2_with fail
    go_at_call 11
    refine (new_any w1).mono ?_
    rintro e w2 ⟨rfl, hp2, hb2, hz2⟩
    have HP2 := Lib.hid hp2
    have HB2 := Lib.hid (HB1.out.trans (hb2.mono HB1.out.size))
    have hla := HB1.out.size
    clear hp2 hb2 HB1
    generalize w1.heap.size = a at HP2 hla hz2 ⊢
    have hba : Below w2.heap.size w2 (w2.alloc (.cells #[.int .i64 0, .slice none 0 0] 30)) := (Below.refl _ _).alloc (Nat.le_refl _) _
    have HP3 := Lib.hid (HP2.out.below hba)
    have HR3 := Lib.hid (Dr.fresh w2).rc
    have HB3 := Lib.hid (HB2.out.trans (hba.mono HB2.out.size))
    have hlr : w.heap.size ≤ w2.heap.size := HB2.out.size
    clear hba HP2 HB2
    go_wp2
    generalize w2.alloc (.cells #[.int .i64 0, .slice none 0 0] 30) = w3 at HP3 HR3 HB3 ⊢
    generalize w2.heap.size = r at HR3 hlr hz2 ⊢
    go_loopg [11] n (fun gh iv wr => ∃ (i : Nat) (B : Acc), i ≤ n ∧ gh = n - i ∧ iv = .int .i64 i ∧ PA wr a B ∧ RC wr r B.p B.l ∧ Below w.heap.size w wr)
    case atStart => exact ⟨0, Acc.new, Nat.zero_le _, rfl, rfl, HP3.out, HR3.out, HB3.out⟩
    case round =>
      obtain ⟨i, B, hi, rfl, rfl, hP, hR, hb⟩ := hrel
      have HP := Lib.hid hP
      have HR := Lib.hid hR
      have HBl := Lib.hid hb
      clear hP hR hb HP3 HR3 HB3
      by_cases hlt : i < n
      · obtain ⟨g, off, rfl, hg, hc0⟩ := HB.out i hlt
        obtain ⟨y, hy⟩ : ∃ y, st i = y := ⟨_, rfl⟩
        rw [hy] at hc0
        have hlI : (i : Int) < (n : Int) := by omega
        have hiI : (0 : Int) ≤ (i : Int) := by omega
        have HC := Lib.hid (fun (W : World) (hW : Below w.heap.size w W) => hc0.below hW hg)
        clear hc0 hy
        obtain ⟨kk, xb, xi, ⟨vs, vb, vx⟩⟩ := y
        obtain ⟨q0, q1, q2, q3, q4, q5⟩ := HC.out _ HBl.out
        by_cases z0 : kk = 0
        · as_aux_lemma =>
            subst z0
            have bd : Below wr.heap.size wr wr.drew := (Below.refl _ _).drew
            have P0 := Lib.hid (HP.out.below bd)
            have R0 := Lib.hid (HR.out.below bd)
            have B0 := Lib.hid (HBl.out.trans (bd.mono HBl.out.size))
            have HPp := Lib.hid (prepare_any a xb xi B _ P0.out)
            have hz0 := B0.out.size
            go_wp2_with fail
            clear bd HP HR HBl q0 q1 q2 q3 q4 q5
            obtain ⟨-, q1, q2, -, -, -⟩ := HC.out _ B0.out
            go_region_held3 (fun w' => w'.cell? ⟨g, off + i * 6 + 1, none⟩ = some (.int .i64 xb) ∧ w'.cell? ⟨g, off + i * 6 + 2, none⟩ = some (.int .i64 xi))
              (first | exact ⟨q1, q2⟩ | exact ⟨j1, j2⟩ | fail)
              (first
                | (go_at_call 13; (with_reducible refine HPp.out.mono ?_); rintro e w5 ⟨v, rfl, -, k1, k2⟩; have P1 := Lib.hid k1; have R1 := Lib.hid (R0.out.fbA P0.out k2); have B1 := Lib.hid (below_fb B0.out k2 hla hz0); obtain ⟨-, j1, j2, -, -, -⟩ := HC.out _ B1.out; clear k1 k2)
                | fail)
            clear q1 q2 j1 j2 HPp
            have bd : Below w5.heap.size w5 w5.drew := (Below.refl _ _).drew
            have P2 := Lib.hid (P1.out.below bd)
            have R2 := Lib.hid (R1.out.below bd)
            have B2 := Lib.hid (B1.out.trans (bd.mono B1.out.size))
            have HRp := Lib.hid (rprepare_any r xb xi B _ R2.out P0.out.good.len)
            have hz2' := B2.out.size
            clear bd P0 R0 B0 P1 R1 B1
            go_wp2_with fail
            obtain ⟨-, q1, q2, -, -, -⟩ := HC.out _ B2.out
            go_region_held3 (fun w' => w'.cell? ⟨g, off + i * 6 + 1, none⟩ = some (.int .i64 xb) ∧ w'.cell? ⟨g, off + i * 6 + 2, none⟩ = some (.int .i64 xi))
              (first | exact ⟨q1, q2⟩ | exact ⟨j1, j2⟩ | fail)
              (first
                | (go_at_call 14; (with_reducible refine HRp.out.mono ?_); rintro e w6 ⟨u, rfl, -, k1, k2⟩; have P3 := Lib.hid (P2.out.fbR R2.out k2); have R3 := Lib.hid k1; have B3 := Lib.hid (below_fb B2.out k2 hlr hz2'); obtain ⟨-, j1, j2, -, -, -⟩ := HC.out _ B3.out; clear k1 k2)
                | fail)
            go_wp2
            go_roundg (n - (i + 1))
            case measure => omega
            case rel => exact ⟨i + 1, B.prep xb, by omega, rfl, by go_num, P3.out, R3.out, B3.out⟩
        by_cases z1 : kk = 1
        · as_aux_lemma =>
            subst z1
            have HAc := Lib.hid (accept_any a ⟨vs, vb, vx⟩ B wr HP.out)
            have hz0 := HBl.out.size
            go_wp2_with fail
            go_at_call 17
            refine HAc.out.mono ?_
            rintro e w5 ⟨rfl, k1, k2⟩
            have P1 := Lib.hid k1
            have R1 := Lib.hid (HR.out.fbA HP.out k2)
            have B1 := Lib.hid (below_fb HBl.out k2 hla hz0)
            have HRa := Lib.hid (raccept_any r ⟨vs, vb, vx⟩ B w5 R1.out HP.out.good.srt)
            clear k1 k2 q0 q1 q2 q3 q4 q5 HP HR HBl HAc
            obtain ⟨q0, q1, q2, q3, q4, q5⟩ := HC.out _ B1.out
            go_wp2_with fail
            go_at_call 18
            refine HRa.out.mono ?_
            rintro e w6 ⟨rfl, k1, k2⟩
            have P2 := Lib.hid (P1.out.fbR R1.out k2)
            have R2 := Lib.hid k1
            have B2 := Lib.hid (below_fb B1.out k2 hlr B1.out.size)
            clear k1 k2 q0 q1 q2 q3 q4 q5 P1 R1 B1 HRa
            go_wp2
            go_roundg (n - (i + 1))
            case measure => omega
            case rel => exact ⟨i + 1, B.accept ⟨vs, vb, vx⟩, by omega, rfl, by go_num, P2.out, R2.out, B2.out⟩
        · as_aux_lemma =>
            go_wp2
            go_roundg (n - (i + 1))
            case measure => omega
            case rel => exact ⟨i + 1, B, by omega, rfl, by go_num, HP.out, HR.out, HBl.out⟩
      · as_aux_lemma =>
          have hlI : ¬ ((i : Int) < (n : Int)) := by omega
          obtain rfl : i = n := by omega
          clear HB
          have HGB := Lib.hid HP.out.good
          have HPr := Lib.hid (promised_any a B.p B.l _ HP.out.pc)
          go_wp2_with fail
          go_at_call 12
          refine HPr.out.mono ?_
          rintro e w' ⟨rfl, rfl⟩
          clear HPr
          have HVo := Lib.hid (votes_any a B.p B.l _ HP.out.pc HP.out.good.srt)
          have hlen : B.l.length ≤ 100000 := by have := HP.out.good.len; omega
          go_wp2_with fail
          go_at_call 22
          refine HVo.out.mono ?_
          rintro e w5 ⟨v, rfl, k1, k2⟩
          have V5 := Lib.hid k1
          have P5 := Lib.hid (HP.out.below k2)
          have R5 := Lib.hid (HR.out.below k2)
          have B5 := Lib.hid (HBl.out.trans (k2.mono HBl.out.size))
          clear k1 k2 HVo HP HR HBl
          go_wp2_with fail
          go_at_call 16
          refine (theirs_any V5.out hlen).mono ?_
          rintro e w6 ⟨was, rfl, k1, k2⟩
          have W6 := Lib.hid k1
          have P6 := Lib.hid (P5.out.below k2)
          have R6 := Lib.hid (R5.out.below k2)
          have B6 := Lib.hid (B5.out.trans (k2.mono B5.out.size))
          have HAc := Lib.hid (accept_any a ⟨sl, b, x⟩ B w6 P6.out)
          clear k1 k2 V5 P5 R5 B5
          go_wp2_with fail
          go_at_call 17
          refine HAc.out.mono ?_
          rintro e w7 ⟨rfl, k1, k2⟩
          have P7 := Lib.hid k1
          have R7 := Lib.hid (R6.out.fbA P6.out k2)
          have W7 := Lib.hid (W6.out.fbA P6.out (by decide) k2)
          have B7 := Lib.hid (below_fb B6.out k2 hla B6.out.size)
          clear k1 k2 W6 P6 R6 B6 HAc
          have HWr := Lib.hid (show wrongE ⟨sl, b, x⟩ = 0 ↔ 0 ≤ sl ∧ sl < 4096 ∧ isB b from by
            rw [wrongE_zero]
            exact ⟨fun h => ⟨h.1, h.2.1, h.2.2.1⟩, fun h => ⟨h.1, h.2.1, h.2.2, by show x.size ≤ 1024; omega⟩⟩)
          obtain ⟨may, hmay⟩ : ∃ may, may = decide (wrongE ⟨sl, b, x⟩ = 0) := ⟨_, rfl⟩
          have HMay := Lib.hid hmay
          clear hmay
          go_upto_region 18 with fail
          go_cut [15] from 99 to 112 (fun s15 wx => s15 = .bool may ∧ wx = w7)
          case first =>
            by_cases g0 : 0 ≤ sl
            case neg =>
              obtain rfl : may = false := by rw [HMay.out]; exact decide_eq_false fun h => g0 (HWr.out.1 h).1
              go_wp2
              go_meet
              case rel => exact ⟨rfl, rfl⟩
            by_cases g1 : sl < 4096
            case neg =>
              obtain rfl : may = false := by rw [HMay.out]; exact decide_eq_false fun h => g1 (HWr.out.1 h).2.1
              go_wp2
              go_meet
              case rel => exact ⟨rfl, rfl⟩
            by_cases g2 : 1 ≤ b
            case neg =>
              obtain rfl : may = false := by rw [HMay.out]; exact decide_eq_false fun h => g2 (HWr.out.1 h).2.2.1
              go_wp2
              go_meet
              case rel => exact ⟨rfl, rfl⟩
            by_cases g3 : b ≤ 1099511627776
            case neg =>
              obtain rfl : may = false := by rw [HMay.out]; exact decide_eq_false fun h => g3 (HWr.out.1 h).2.2.2
              go_wp2
              go_meet
              case rel => exact ⟨rfl, rfl⟩
            obtain rfl : may = true := by rw [HMay.out]; exact decide_eq_true (HWr.out.2 ⟨g0, g1, g2, g3⟩)
            go_wp2
            go_meet
            case rel => exact ⟨rfl, rfl⟩
          case rest =>
            obtain ⟨rfl, rfl⟩ := hcut
            obtain ⟨c0, -⟩ := R7.out.form
            by_cases hm : wrongE ⟨sl, b, x⟩ = 0
            case neg =>
              obtain rfl : may = false := by rw [HMay.out]; exact decide_eq_false hm
              have he : accE B ⟨sl, b, x⟩ = 1 := by
                unfold accE
                rw [if_neg hm]
                unfold wrongE at hm ⊢
                split
                · rename_i h
                  rw [if_pos h, if_neg (by show ¬ 1024 < x.size; omega)] at hm
                  exact absurd rfl hm
                · rfl
              have he2 : B.accept ⟨sl, b, x⟩ = B := by unfold Acc.accept; rw [if_neg (by omega)]
              rw [he]
              clear he hm HMay HWr
              have P8 := Lib.hid (show PA wc a B from by have := P7.out; rw [he2] at this; exact this)
              clear P7 he2
              have HPr := Lib.hid (promised_any a B.p B.l _ P8.out.pc)
              have HVo := Lib.hid (votes_any a B.p B.l _ P8.out.pc P8.out.good.srt)
              go_wp2_with fail
              go_at_call 12
              refine HPr.out.mono ?_
              rintro e w' ⟨rfl, rfl⟩
              go_wp2_with fail
              go_at_call 22
              refine HVo.out.mono ?_
              rintro e w8 ⟨v8, rfl, k1, k2⟩
              have V8 := Lib.hid k1
              have W8 := Lib.hid (OwnsV.below k2 W7.out)
              have B8 := Lib.hid (B7.out.trans (k2.mono B7.out.size))
              clear k1 k2 HPr HVo W7 B7 P8
              go_wp2_with fail
              go_at_call 16
              refine (theirs_any V8.out hlen).mono ?_
              rintro e w9 ⟨v9, rfl, k1, k2⟩
              have V9 := Lib.hid k1
              have W9 := Lib.hid (OwnsV.below k2 W8.out)
              have B9 := Lib.hid (B8.out.trans (k2.mono B8.out.size))
              clear k1 k2 V8 W8 B8
              go_wp2_with fail
              go_at_call 15
              refine (same10_yes V9.out W9.out hlen).mono ?_
              rintro e w10 ⟨rfl, k2⟩
              have B10 := Lib.hid (B9.out.trans (k2.mono B9.out.size))
              clear k2
              go_wp2
              go_ret
              exact ⟨rfl, B10.out⟩
            obtain rfl : may = true := by rw [HMay.out]; exact decide_eq_true hm
            by_cases hlt : b < B.p
            case pos =>
              have he : accE B ⟨sl, b, x⟩ = 5 := by unfold accE; rw [if_pos hm, if_pos hlt]
              have he2 : B.accept ⟨sl, b, x⟩ = B := by unfold Acc.accept; rw [if_neg (by omega)]
              rw [he]
              clear he hm HMay HWr
              have P8 := Lib.hid (show PA wc a B from by have := P7.out; rw [he2] at this; exact this)
              clear P7 he2
              have HPr := Lib.hid (promised_any a B.p B.l _ P8.out.pc)
              have HVo := Lib.hid (votes_any a B.p B.l _ P8.out.pc P8.out.good.srt)
              go_wp2_with fail
              go_at_call 12
              refine HPr.out.mono ?_
              rintro e w' ⟨rfl, rfl⟩
              go_wp2_with fail
              go_at_call 22
              refine HVo.out.mono ?_
              rintro e w8 ⟨v8, rfl, k1, k2⟩
              have V8 := Lib.hid k1
              have W8 := Lib.hid (OwnsV.below k2 W7.out)
              have B8 := Lib.hid (B7.out.trans (k2.mono B7.out.size))
              clear k1 k2 HPr HVo W7 B7 P8
              go_wp2_with fail
              go_at_call 16
              refine (theirs_any V8.out hlen).mono ?_
              rintro e w9 ⟨v9, rfl, k1, k2⟩
              have V9 := Lib.hid k1
              have W9 := Lib.hid (OwnsV.below k2 W8.out)
              have B9 := Lib.hid (B8.out.trans (k2.mono B8.out.size))
              clear k1 k2 V8 W8 B8
              go_wp2_with fail
              go_at_call 15
              refine (same10_yes V9.out W9.out hlen).mono ?_
              rintro e w10 ⟨rfl, k2⟩
              have B10 := Lib.hid (B9.out.trans (k2.mono B9.out.size))
              clear k2
              go_wp2
              go_ret
              exact ⟨rfl, B10.out⟩
            have he : accE B ⟨sl, b, x⟩ = 0 := by unfold accE; rw [if_pos hm, if_neg hlt]
            have he2 : B.accept ⟨sl, b, x⟩ = ⟨b, ins ⟨sl, b, x⟩ B.l⟩ := by unfold Acc.accept; rw [if_pos he]
            rw [he]
            have hb := (HWr.out.1 hm).2.2
            obtain ⟨rest, hrest⟩ : ∃ rest, from_ (ins ⟨sl, b, x⟩ B.l) sl = (⟨sl, b, x⟩ : V) :: rest := from_ins HGB.out.srt ⟨sl, b, x⟩
            have P8 := Lib.hid (show PA wc a ⟨b, ins ⟨sl, b, x⟩ B.l⟩ from by have := P7.out; rw [he2] at this; exact this)
            generalize ins ⟨sl, b, x⟩ B.l = L at P8 hrest
            clear P7 he2 he hm HMay HWr HGB
            have hpe : prepE ⟨b, L⟩ b = 0 := prepE_zero.2 ⟨hb, Int.le_refl _⟩
            have hpp : Acc.prep ⟨b, L⟩ b = ⟨b, L⟩ := by unfold Acc.prep; rw [if_pos hpe]
            have hpl : prepL ⟨b, L⟩ b sl = ⟨sl, b, x⟩ :: rest := by unfold prepL; rw [if_pos hpe]; exact hrest
            have HPp := Lib.hid (prepare_any a b sl ⟨b, L⟩ wc P8.out)
            rw [hpe, hpp, hpl] at HPp
            have hq : prepE ⟨b, L⟩ (b - 1) = if b = 1 then 1 else 5 := by
              unfold prepE
              obtain ⟨b1, b2⟩ := hb
              by_cases hb1 : b = 1
              · rw [if_neg (fun h : isB (b - 1) => by have := h.1; omega), if_pos hb1]
              · rw [if_pos (show isB (b - 1) from ⟨by omega, by omega⟩), if_pos (show b - 1 < b by omega), if_neg hb1]
            have hqq : Acc.prep ⟨b, L⟩ (b - 1) = ⟨b, L⟩ := by unfold Acc.prep; rw [if_neg (by rw [hq]; split <;> omega)]
            have HPq := Lib.hid (fun (W : World) (hW : PA W a ⟨b, L⟩) => prepare_any a (b - 1) 0 ⟨b, L⟩ W hW)
            simp only [hq, hqq] at HPq
            have hne := pv_same ⟨sl, b, x⟩
            obtain ⟨b1, b2⟩ := hb
            clear hpe hpp hpl hq hqq hrest W7
            go_wp2_with fail
            go_at_call 13
            refine HPp.out.mono ?_
            rintro e w8 ⟨v8, rfl, k1, k2, k3⟩
            have V8 := Lib.hid k1
            have P9 := Lib.hid k2
            have B8 := Lib.hid (below_fb B7.out k3 hla B7.out.size)
            clear k1 k2 k3 HPp P8 B7
            go_wp2_with fail
            go_at_call 13
            refine (HPq.out _ P9.out).mono ?_
            rintro e w9 ⟨v9, rfl, -, k2, k3⟩
            have V9 := Lib.hid (V8.out.fbA P9.out (by decide) k3)
            have P10 := Lib.hid k2
            have B9 := Lib.hid (below_fb B8.out k3 hla B8.out.size)
            have HPr := Lib.hid (promised_any a b L w9 k2.pc)
            clear k2 k3 HPq V8 P9 B8
            obtain ⟨Av, cv, rfl, hcv⟩ := vshape V9.out
            obtain ⟨gv, rfl, -, d0, d1, d2⟩ := hcv 0 _ rfl
            rw [Nat.zero_mul] at d0 d1 d2
            have hlen0 : (0 : Int) < (((⟨sl, b, x⟩ : V) :: rest).length : Int) := by simp
            have hlen1 : 0 < ((⟨sl, b, x⟩ : V) :: rest).length := by simp
            generalize ((⟨sl, b, x⟩ : V) :: rest).length = N at hlen0 hlen1 ⊢
            clear hcv V9
            by_cases hb1 : b = 1
            · rw [if_pos hb1]
              subst hb1
              go_wp2_with (go_at_call 12; refine HPr.out.mono ?_; rintro e w' ⟨rfl, rfl⟩)
              go_ret
              exact ⟨rfl, B9.out⟩
            · rw [if_neg hb1]
              go_wp2_with (go_at_call 12; refine HPr.out.mono ?_; rintro e w' ⟨rfl, rfl⟩)
              go_ret
              exact ⟨rfl, B9.out⟩
end Go.Proofs.YtacbodojbekeeaaDoor
