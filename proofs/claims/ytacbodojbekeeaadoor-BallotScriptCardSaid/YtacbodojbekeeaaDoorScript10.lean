/-
  BallotScript (weirkeeplaw10), walked.
-/
import Derived.Test.YtacbodojbekeeaaDoorBoth10
import Derived.BigQuiet
import Derived.Deep.LoopGhost
import Derived.Deep.CutBlock
import Derived.Deep.DeepCutAuto
namespace Go.Proofs.YtacbodojbekeeaaDoor
open Go.RowKit

theorem prep_p (A : Acc) (b : Int) : A.p ≤ (A.prep b).p := by
  unfold Acc.prep
  split
  · rename_i h; exact (prepE_zero.1 h).2
  · exact Int.le_refl _
theorem accept_p (A : Acc) (v : V) : A.p ≤ (A.accept v).p := by
  unfold Acc.accept
  split
  · rename_i h; exact (accE_zero.1 h).2
  · exact Int.le_refl _
theorem prepL_len {A : Acc} (h : A.Good) (b f : Int) : (prepL A b f).length ≤ 100000 := by
  unfold prepL
  split
  · have := from_len A.l f; have := h.len; omega
  · simp

set_option maxRecDepth 100000 in
set_option maxHeartbeats 8000000 in
theorem ballotScript_any (A : Option Addr) (n c : Nat) (st : Nat → Stp) (w : World) (hT : Tab w) (hE : ErrType w) (hS : SIn w A n st) (hn : n ≤ 9223372036854775807) :
    Calls Tryd.prog 3 #[.slice A n c] w fun e w' => e = .returned (.bool true) ∧ Below w.heap.size w w' := by
  have HH := Lib.hid (heavy_any (c := c) hS hn)
  have HSh := Lib.hid (fun (W : World) (hb : Below w.heap.size w W) => shown_any W (hT.below hb) (hE.kept (hb.block _ hE.lt)))
  have HT := Lib.hid hT
  have HE := Lib.hid hE
  have HB := Lib.hid hS
  clear hT hE hS
  go_enter Tryd.func3, Tryd.ntmps3
  go_wp2_with fail
  go_at_call 9
  refine HH.out.mono ?_
  rintro e w0 ⟨hv, rfl, rfl, hno⟩
  clear HH
  cases hv with
  | true =>
    clear hno
    go_wp2_with (go_at_call 10; refine (HSh.out _ (Below.refl _ _)).mono ?_; rintro e w' ⟨rfl, hb⟩; have HBs := Lib.hid hb; clear hb)
    go_ret
    exact ⟨rfl, HBs.out⟩
  | false =>
    have hn100 := hno rfl
    clear hno
    go_wp2_with fail
    go_at_call 10
    refine (HSh.out _ (Below.refl _ _)).mono ?_
    rintro e w1 ⟨rfl, hb1⟩
    have HB1 := Lib.hid hb1
    clear hb1 HSh
    go_wp2_with fail
    go_at_call 11
    refine (new_any w1).mono ?_
    rintro e w2 ⟨rfl, hp2, hb2, hz2⟩
    have HP2 := Lib.hid hp2
    have HB2 := Lib.hid (HB1.out.trans (hb2.mono HB1.out.size))
    have hz1 := HB1.out.size
    clear hp2 hb2 HB1
    generalize w1.heap.size = a0 at HP2 hz1 hz2 ⊢
    have hba : Below w2.heap.size w2 (w2.alloc (.cells #[.int .i64 0, .slice none 0 0] 30)) := (Below.refl _ _).alloc (Nat.le_refl _) _
    have HP3 := Lib.hid (HP2.out.below hba)
    have HR3 := Lib.hid (Dr.fresh w2).rc
    have HB3 := Lib.hid (HB2.out.trans (hba.mono HB2.out.size))
    have hlr : w.heap.size ≤ w2.heap.size := HB2.out.size
    clear hba HP2 HB2
    go_wp2
    generalize w2.alloc (.cells #[.int .i64 0, .slice none 0 0] 30) = w3 at HP3 HR3 HB3 ⊢
    generalize w2.heap.size = r at HR3 hlr hz2 ⊢
    go_loopg [3, 5] n (fun gh v3 iv wr => ∃ (i a : Nat) (B : Acc), i ≤ n ∧ gh = n - i ∧ iv = .int .i64 i ∧ v3 = .pointer (some ⟨a, 0, none⟩) ∧ w.heap.size ≤ a ∧ PA wr a B ∧ RC wr r B.p B.l ∧ Below w.heap.size w wr)
    case atStart => exact ⟨0, a0, Acc.new, Nat.zero_le _, rfl, rfl, rfl, hz1, HP3.out, HR3.out, HB3.out⟩
    case round =>
      obtain ⟨i, a, B, hi, rfl, rfl, rfl, hla, hP, hR, hb⟩ := hrel
      have HP := Lib.hid hP
      have HR := Lib.hid hR
      have HBl := Lib.hid hb
      clear hP hR hb HP3 HR3 HB3
      by_cases hlt : i < n
      · obtain ⟨g, off, rfl, hc⟩ := HB.out.cells HBl.out hlt
        obtain ⟨x, hx⟩ : ∃ x, st i = x := ⟨_, rfl⟩
        rw [hx] at hc
        have hlI : (i : Int) < (n : Int) := by omega
        have hiI : (0 : Int) ≤ (i : Int) := by omega
        obtain ⟨q0, q1, q2, q3, q4, q5⟩ := hc
        have hba : Below wr.heap.size wr (wr.alloc (.cells x.cells 34)) := (Below.refl _ _).alloc (Nat.le_refl _) _
        have HA1 := Lib.hid (AS.fresh wr x)
        have HP1 := Lib.hid (HP.out.below hba)
        have HR1 := Lib.hid (HR.out.below hba)
        have HB1 := Lib.hid (HBl.out.trans (hba.mono HBl.out.size))
        clear hx hba HP HR HBl
        obtain ⟨kk, xb, xi, ⟨vs, vb, vx⟩⟩ := x
        obtain ⟨p0, p1, p2, p3, p4, p5⟩ := HA1.out.all
        have HPr := Lib.hid (promised_any a B.p B.l _ HP1.out.pc)
        go_upto_block 2 with (go_at_call 12; refine HPr.out.mono ?_; rintro e w' ⟨rfl, rfl⟩)
        generalize wr.alloc (.cells #[.int .i64 kk, .int .i64 xb, .int .i64 xi, .int .i64 vs, .int .i64 vb, .string vx] 34) = w4 at *
        generalize wr.heap.size = z at *
        clear q0 q1 q2 q3 q4 q5 p0 p1 p2 p3 p4 p5 HPr
        go_cut [3, 8, 9, 10, 11, 12, 13, 14] from 35 to 101 (fun v3 _ _ _ _ _ _ _ wx => ∃ (a' : Nat) (B' : Acc), v3 = .pointer (some ⟨a', 0, none⟩) ∧ w.heap.size ≤ a' ∧ PA wx a' B' ∧ RC wx r B'.p B'.l ∧ Below w.heap.size w wx ∧ B.p ≤ B'.p)
        case first =>
          obtain ⟨p0, p1, p2, p3, p4, p5⟩ := HA1.out.all
          by_cases z0 : kk = 0
          · as_aux_lemma =>
              subst z0
              have HPp := Lib.hid (prepare_any a xb xi B _ HP1.out)
              go_wp2_with fail
              go_at_call 13
              refine HPp.out.mono ?_
              rintro e w5 ⟨v, rfl, k1, k2, k3⟩
              have HV5 := Lib.hid k1
              have HP5 := Lib.hid k2
              have HR5 := Lib.hid (HR1.out.fbA HP1.out k3)
              have HA5 := Lib.hid (HA1.out.fbA HP1.out k3)
              have HB5 := Lib.hid (below_fb HB1.out k3 hla HB1.out.size)
              have hz5 := HB5.out.size
              have HRp := Lib.hid (rprepare_any r xb xi B _ HR5.out HP1.out.good.len)
              have HPL := Lib.hid (prepL_len HP1.out.good xb xi)
              clear k1 k2 k3 HPp HP1 HR1 HA1 HB1 p0 p1 p2 p3 p4 p5
              obtain ⟨p0, p1, p2, p3, p4, p5⟩ := HA5.out.all
              go_wp2_with fail
              go_at_call 14
              refine HRp.out.mono ?_
              rintro e w6 ⟨u, rfl, k1, k2, k3⟩
              have HV6 := Lib.hid (HV5.out.fbR HR5.out (by decide) k3)
              have HU6 := Lib.hid k1
              have HP6 := Lib.hid (HP5.out.fbR HR5.out k3)
              have HR6 := Lib.hid k2
              have HB6 := Lib.hid (below_fb HB5.out k3 hlr HB5.out.size)
              clear k1 k2 k3 HRp HV5 HP5 HR5 HA5 HB5 p0 p1 p2 p3 p4 p5
              generalize prepE B xb = er at *
              go_wp2_with fail
              go_at_call 16
              refine (theirs_any HV6.out HPL.out).mono ?_
              rintro e w7 ⟨t, rfl, k1, k2⟩
              have HT7 := Lib.hid k1
              have HU7 := Lib.hid (OwnsV.below k2 HU6.out)
              have HP7 := Lib.hid (HP6.out.below k2)
              have HR7 := Lib.hid (HR6.out.below k2)
              have HB7 := Lib.hid (HB6.out.trans (k2.mono HB6.out.size))
              clear k1 k2 HV6 HU6 HP6 HR6 HB6
              go_wp2_with fail
              go_at_call 15
              refine (same10_yes HT7.out HU7.out HPL.out).mono ?_
              rintro e w8 ⟨rfl, k2⟩
              have HP8 := Lib.hid (HP7.out.below k2)
              have HR8 := Lib.hid (HR7.out.below k2)
              have HB8 := Lib.hid (HB7.out.trans (k2.mono HB7.out.size))
              clear k2 HT7 HU7 HP7 HR7 HB7
              go_wp2
              go_meet
              case rel => exact ⟨a, _, rfl, hla, HP8.out, HR8.out, HB8.out, prep_p B xb⟩
          by_cases z1 : kk = 1
          · as_aux_lemma =>
              subst z1
              have bd : Below w4.heap.size w4 w4.drew := (Below.refl _ _).drew
              have HPd := Lib.hid (HP1.out.below bd)
              have HRd := Lib.hid (HR1.out.below bd)
              have HAd := Lib.hid (HA1.out.below bd)
              have HBd := Lib.hid (HB1.out.trans (bd.mono HB1.out.size))
              have HAc := Lib.hid (accept_any a ⟨vs, vb, vx⟩ B _ HPd.out)
              have hlz : w.heap.size ≤ w4.drew.heap.size := HBd.out.size
              clear bd HP1 HR1 HA1 HB1 p0 p1 p2 p3 p4 p5
              obtain ⟨p0, p1, p2, p3, p4, p5⟩ := HAd.out.all
              go_wp2_with fail
              go_region_held3 (fun w' => w'.cell? ⟨z, 3, none⟩ = some (.int .i64 vs) ∧ w'.cell? ⟨z, 4, none⟩ = some (.int .i64 vb) ∧ w'.cell? ⟨z, 5, none⟩ = some (.string vx))
                (first | exact ⟨p3, p4, p5⟩ | exact ⟨j3, j4, j5⟩ | exact ⟨i3, i4, i5⟩ | fail)
                (first
                  | (go_at_call 17; (with_reducible refine HAc.out.mono ?_); rintro e w5 ⟨rfl, k1, k2⟩; have HP5 := Lib.hid k1; have HR5 := Lib.hid (HRd.out.fbA HPd.out k2); have HA5 := Lib.hid (HAd.out.fbA HPd.out k2); have HB5 := Lib.hid (below_fb HBd.out k2 hla hlz); obtain ⟨-, -, -, j3, j4, j5⟩ := HA5.out.all; clear k1 k2)
                  | (go_at_call 18; (with_reducible refine (raccept_any r ⟨vs, vb, vx⟩ B _ HR5.out HPd.out.good.srt).mono ?_); rintro e w6 ⟨rfl, k1, k2⟩; have HR6 := Lib.hid k1; have HP6 := Lib.hid (HP5.out.fbR HR5.out k2); have HA6 := Lib.hid (HA5.out.fbR HR5.out k2); have HB6 := Lib.hid (below_fb HB5.out k2 hlr HB5.out.size); obtain ⟨-, -, -, i3, i4, i5⟩ := HA6.out.all; clear k1 k2)
                  | fail)
              go_wp2
              go_meet
              case rel => exact ⟨a, _, rfl, hla, HP6.out, HR6.out, HB6.out, accept_p B ⟨vs, vb, vx⟩⟩
          by_cases z2 : kk = 2
          · as_aux_lemma =>
              subst z2
              have HTs := Lib.hid (HT.out.below HB1.out)
              have HSv := Lib.hid (save_any a B _ HP1.out HTs.out)
              have hld := load_save HP1.out.good
              have hsz := HP1.out.good.save_size
              have HRs := Lib.hid (fun (W : World) (hR : RC W r B.p B.l) => rsave_any r B W hR HP1.out.good)
              generalize saveOf B = sv at HSv hld hsz HRs
              have HLd := Lib.hid hld
              clear hld p0 p1 p2 p3 p4 p5
              go_wp2_with fail
              go_at_call 19
              refine HSv.out.mono ?_
              rintro e w5 ⟨rfl, k1⟩
              have HR5 := Lib.hid (HR1.out.below k1)
              have HB5 := Lib.hid (HB1.out.trans (k1.mono HB1.out.size))
              have HL5 := Lib.hid (load_any sv w5 (HT.out.below HB5.out) (HE.out.kept (HB5.out.block _ HE.out.lt)) (by omega))
              clear k1 HSv HTs HP1 HR1 HA1 HB1
              go_wp2_with fail
              go_at_call 20
              refine HL5.out.mono ?_
              rintro e w6 ⟨v, k, rfl, k1, hor⟩
              rcases hor with ⟨h1, -⟩ | ⟨B', a', h1, rfl, rfl, hla', hP'⟩
              · rw [HLd.out] at h1; cases h1
              rw [HLd.out] at h1
              obtain rfl := Option.some.inj h1
              have HP6 := Lib.hid hP'
              have HR6 := Lib.hid (HR5.out.below k1)
              have HB6 := Lib.hid (HB5.out.trans (k1.mono HB5.out.size))
              have hla2 : w.heap.size ≤ a' := Nat.le_trans HB5.out.size hla'
              clear hP' k1 h1 HL5 HR5 HB5
              go_wp2_with fail
              go_at_call 21
              refine (HRs.out _ HR6.out).mono ?_
              rintro e w7 ⟨rfl, k1⟩
              have HP7 := Lib.hid (HP6.out.below k1)
              have HR7 := Lib.hid (HR6.out.below k1)
              have HB7 := Lib.hid (HB6.out.trans (k1.mono HB6.out.size))
              clear k1 HP6 HR6 HB6 HRs
              go_wp2
              go_meet
              case rel => exact ⟨a', B, rfl, hla2, HP7.out, HR7.out, HB7.out, Int.le_refl _⟩
          · as_aux_lemma =>
              go_wp2
              go_meet
              case rel => exact ⟨a, B, rfl, hla, HP1.out, HR1.out, HB1.out, Int.le_refl _⟩
        case rest =>
          as_aux_lemma =>
            obtain ⟨a', B', rfl, hla', hP, hR, hb, hle⟩ := hcut
            have bd : Below wc.heap.size wc wc.drew := (Below.refl _ _).drew
            have A0 := Lib.hid (hP.below bd)
            have R0 := Lib.hid (hR.below bd)
            have BB0 := Lib.hid (hb.trans (bd.mono hb.size))
            obtain ⟨c0, Ar, cr, c1, hrow, -⟩ := R0.out.form
            have RL := Lib.hid hrow
            have hrl := R0.out.lt
            have HHc := Lib.hid (show ∀ w', Below wc.drew.heap.size wc.drew w' → w'.cell? ⟨r, 0, none⟩ = some (.int .i64 B'.p) ∧ w'.cell? ⟨r, 1, none⟩ = some (.slice Ar B'.l.length cr) from fun w' hw => ⟨(hw.cell (p := ⟨r, 0, none⟩) hrl).trans c0, (hw.cell (p := ⟨r, 1, none⟩) hrl).trans c1⟩)
            have B0 := Lib.hid (Below.refl wc.drew.heap.size wc.drew)
            have hG := Lib.hid A0.out.good
            have hlen := Lib.hid (show B'.l.length ≤ 100000 from by have := hG.out.len; omega)
            have hnl : decide (B'.p < B.p) = false := decide_eq_false (by omega)
            clear hP hR hb c0 c1 hrow bd HP1 HR1 HA1 HB1 hle
            go_wp2_with fail
            go_region_held3 (fun w' => w'.cell? ⟨r, 0, none⟩ = some (.int .i64 B'.p) ∧ w'.cell? ⟨r, 1, none⟩ = some (.slice Ar B'.l.length cr))
              (first | exact HHc.out _ B4.out | exact HHc.out _ B3.out | exact HHc.out _ B2.out | exact HHc.out _ B0.out | fail)
              (first
                | (go_at_call 12; (with_reducible refine (promised_any a' B'.p B'.l _ A0.out.pc).mono ?_); rintro e wB ⟨rfl, rfl⟩)
                | (go_at_call 22; (with_reducible refine (votes_any a' B'.p B'.l _ A0.out.pc hG.out.srt).mono ?_); rintro e wC ⟨va, rfl, k1, k2⟩; have VA := Lib.hid k1; have B2 := Lib.hid k2; clear k1 k2)
                | (go_at_call 16; (with_reducible refine (theirs_any VA.out hlen.out).mono ?_); rintro e wD ⟨vb, rfl, k1, k2⟩; have VB := Lib.hid k1; have B3 := Lib.hid (B2.out.trans (k2.mono B2.out.size)); clear k1 k2)
                | (go_at_call 15; (with_reducible refine (same10_yes VB.out (OwnsV.below B3.out RL.out) hlen.out).mono ?_); rintro e wE ⟨rfl, k2⟩; have B4 := Lib.hid (B3.out.trans (k2.mono B3.out.size)); clear k2)
                | fail)
            clear HHc
            go_wp2_with fail
            go_roundg (n - (i + 1))
            case measure => omega
            case rel => exact ⟨i + 1, a', B', by omega, rfl, by go_num, rfl, hla', A0.out.below B4.out, R0.out.below B4.out, BB0.out.trans (B4.out.mono BB0.out.size)⟩
      · have hlI : ¬ ((i : Int) < (n : Int)) := by omega
        obtain rfl : i = n := by omega
        go_wp2
        go_ret
        exact ⟨rfl, HBl.out⟩
end Go.Proofs.YtacbodojbekeeaaDoor
