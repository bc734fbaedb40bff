/-
  BallotSaves (weirkeeplaw10), walked.
-/
import Derived.Test.YtacbodojbekeeaaDoorBoth10
import Derived.BigQuiet
import Derived.Deep.LoopGhost
import Derived.Deep.CutBlock
import Derived.Deep.DeepCutAuto
namespace Go.Proofs.YtacbodojbekeeaaDoor
open Go.RowKit

theorem prepL_few {A : Acc} (h : A.Good) (b f : Int) : (prepL A b f).length ≤ 100000 := by
  unfold prepL
  split
  · have := from_len A.l f; have := h.len; omega
  · simp

set_option maxRecDepth 100000 in
set_option maxHeartbeats 8000000 in
theorem ballotSaves_any (A1 : Option Addr) (n1 c1 : Nat) (st1 : Nat → Stp) (A2 : Option Addr) (n2 c2 : Nat) (st2 : Nat → Stp) (w : World) (hT : Tab w) (hE : ErrType w) (hS1 : SIn w A1 n1 st1) (hn1 : n1 ≤ 9223372036854775807) (hS2 : SIn w A2 n2 st2) (hn2 : n2 ≤ 9223372036854775807) :
    Calls Tryd.prog 8 #[.slice A1 n1 c1, .slice A2 n2 c2] w fun e w' => e = .returned (.bool true) ∧ Below w.heap.size w w' := by
  have HH1 := Lib.hid (heavy_any (c := c1) hS1 hn1)
  have HH2 := Lib.hid (heavy_any (c := c2) hS2 hn2)
  have HSh := Lib.hid (fun (W : World) (hb : Below w.heap.size w W) => shown_any W (hT.below hb) (hE.kept (hb.block _ hE.lt)))
  have HT := Lib.hid hT
  have HE := Lib.hid hE
  have HC1 := Lib.hid hS1
  have HC2 := Lib.hid hS2
  clear hT hE hS1 hS2
  go_enter Tryd.func8, Tryd.ntmps8
  go_wp2_with fail
  go_at_call 9
  refine HH1.out.mono ?_
  rintro e w0 ⟨hv, rfl, rfl, hno1⟩
  clear HH1
  cases hv with
  | true =>
    clear hno1
    go_wp2_with (go_at_call 10; refine (HSh.out _ (Below.refl _ _)).mono ?_; rintro e w' ⟨rfl, hb⟩; have HBs := Lib.hid hb; clear hb)
    go_ret
    exact ⟨rfl, HBs.out⟩
  | false =>
    have hn100 := hno1 rfl
    clear hno1
    go_wp2_with fail
    go_at_call 9
    refine HH2.out.mono ?_
    rintro e w0 ⟨hv, rfl, rfl, hno2⟩
    clear HH2
    cases hv with
    | true =>
      clear hno2
      go_wp2_with (go_at_call 10; refine (HSh.out _ (Below.refl _ _)).mono ?_; rintro e w' ⟨rfl, hb⟩; have HBs := Lib.hid hb; clear hb)
      go_ret
      exact ⟨rfl, HBs.out⟩
    | false =>
    have hn200 := hno2 rfl
    clear hno2
    go_wp2_with fail
    go_at_call 10
    refine (HSh.out _ (Below.refl _ _)).mono ?_
    rintro e w1 ⟨rfl, hb1⟩
    have HB1 := Lib.hid hb1
    clear hb1 HSh
    go_wp2_with fail
    go_at_call 11
    refine (new_any w1).mono ?_
    rintro e w2 ⟨rfl, hp2, hb2, hz2⟩
    have HP2 := Lib.hid hp2
    have HB2 := Lib.hid (HB1.out.trans (hb2.mono HB1.out.size))
    have hla := HB1.out.size
    clear hp2 hb2 HB1
    generalize w1.heap.size = a at HP2 hla hz2 ⊢
    go_wp2
    go_loopg [6] n1 (fun gh iv wr => ∃ (i : Nat) (B : Acc), i ≤ n1 ∧ gh = n1 - i ∧ iv = .int .i64 i ∧ PA wr a B ∧ Below w.heap.size w wr)
    case atStart => exact ⟨0, Acc.new, Nat.zero_le _, rfl, rfl, HP2.out, HB2.out⟩
    case round =>
      obtain ⟨i, B, hi, rfl, rfl, hP, hb⟩ := hrel
      have HP := Lib.hid hP
      have HBl := Lib.hid hb
      clear hP hb HP2 HB2
      by_cases hlt : i < n1
      · obtain ⟨g, off, rfl, hg, hc0⟩ := HC1.out i hlt
        obtain ⟨y, hy⟩ : ∃ y, st1 i = y := ⟨_, rfl⟩
        rw [hy] at hc0
        have hlI : (i : Int) < (n1 : Int) := by omega
        have hiI : (0 : Int) ≤ (i : Int) := by omega
        have HC := Lib.hid (fun (W : World) (hW : Below w.heap.size w W) => hc0.below hW hg)
        clear hc0 hy
        obtain ⟨kk, xb, xi, ⟨vs, vb, vx⟩⟩ := y
        obtain ⟨q0, q1, q2, q3, q4, q5⟩ := HC.out _ HBl.out
        by_cases z0 : kk = 0
        · as_aux_lemma =>
            subst z0
            have bd : Below wr.heap.size wr wr.drew := (Below.refl _ _).drew
            have P0 := Lib.hid (HP.out.below bd)
            have B0 := Lib.hid (HBl.out.trans (bd.mono HBl.out.size))
            have HPp := Lib.hid (prepare_any a xb xi B _ P0.out)
            have hz0 := B0.out.size
            go_wp2_with fail
            clear bd HP HBl q0 q1 q2 q3 q4 q5
            obtain ⟨-, q1, q2, -, -, -⟩ := HC.out _ B0.out
            go_region_held3 (fun w' => w'.cell? ⟨g, off + i * 6 + 1, none⟩ = some (.int .i64 xb) ∧ w'.cell? ⟨g, off + i * 6 + 2, none⟩ = some (.int .i64 xi))
              (first | exact ⟨q1, q2⟩ | exact ⟨j1, j2⟩ | fail)
              (first
                | (go_at_call 13; (with_reducible refine HPp.out.mono ?_); rintro e w5 ⟨v, rfl, -, k1, k2⟩; have P1 := Lib.hid k1; have B1 := Lib.hid (below_fb B0.out k2 hla hz0); obtain ⟨-, j1, j2, -, -, -⟩ := HC.out _ B1.out; clear k1 k2)
                | fail)
            go_wp2
            go_roundg (n1 - (i + 1))
            case measure => omega
            case rel => exact ⟨i + 1, B.prep xb, by omega, rfl, by go_num, P1.out, B1.out⟩
        by_cases z1 : kk = 1
        · as_aux_lemma =>
            subst z1
            have HAc := Lib.hid (accept_any a ⟨vs, vb, vx⟩ B wr HP.out)
            have hz0 := HBl.out.size
            go_wp2_with fail
            go_at_call 17
            refine HAc.out.mono ?_
            rintro e w5 ⟨rfl, k1, k2⟩
            have P1 := Lib.hid k1
            have B1 := Lib.hid (below_fb HBl.out k2 hla hz0)
            clear k1 k2 q0 q1 q2 q3 q4 q5 HP HBl HAc
            go_wp2
            go_roundg (n1 - (i + 1))
            case measure => omega
            case rel => exact ⟨i + 1, B.accept ⟨vs, vb, vx⟩, by omega, rfl, by go_num, P1.out, B1.out⟩
        · as_aux_lemma =>
            go_wp2
            go_roundg (n1 - (i + 1))
            case measure => omega
            case rel => exact ⟨i + 1, B, by omega, rfl, by go_num, HP.out, HBl.out⟩
      · as_aux_lemma =>
          have hlI : ¬ ((i : Int) < (n1 : Int)) := by omega
          obtain rfl : i = n1 := by omega
          clear HC1
          have HTs := Lib.hid (HT.out.below HBl.out)
          have HSv := Lib.hid (save_any a B _ HP.out HTs.out)
          have hld := load_save HP.out.good
          have hsz := HP.out.good.save_size
          generalize saveOf B = sv at HSv hld hsz
          have HLd := Lib.hid hld
          clear hld
          go_wp2_with fail
          go_at_call 19
          refine HSv.out.mono ?_
          rintro e w5 ⟨rfl, k1⟩
          have P5 := Lib.hid (HP.out.below k1)
          have B5 := Lib.hid (HBl.out.trans (k1.mono HBl.out.size))
          have HL5 := Lib.hid (load_any sv w5 (HT.out.below B5.out) (HE.out.kept (B5.out.block _ HE.out.lt)) (by omega))
          clear k1 HSv HTs HP HBl
          go_wp2_with fail
          go_at_call 20
          refine HL5.out.mono ?_
          rintro e w6 ⟨v, k, rfl, k1, hor⟩
          rcases hor with ⟨h1, -⟩ | ⟨B', b, h1, rfl, rfl, hlb', hP'⟩
          · rw [HLd.out] at h1; cases h1
          rw [HLd.out] at h1
          obtain rfl := Option.some.inj h1
          have Q6 := Lib.hid hP'
          have P6 := Lib.hid (P5.out.below k1)
          have B6 := Lib.hid (B5.out.trans (k1.mono B5.out.size))
          have hlb : w.heap.size ≤ b := Nat.le_trans B5.out.size hlb'
          have hab : a ≠ b := by have := P5.out.lt; omega
          clear hP' k1 h1 HL5 P5 B5 hlb' HLd
          go_wp2
          go_loopg [9] n2 (fun gh iv wr => ∃ (i : Nat) (B : Acc), i ≤ n2 ∧ gh = n2 - i ∧ iv = .int .i64 i ∧ PA wr a B ∧ PA wr b B ∧ Below w.heap.size w wr)
          case atStart => exact ⟨0, B, Nat.zero_le _, rfl, rfl, P6.out, Q6.out, B6.out⟩
          case round =>
            obtain ⟨i2, B, hi2, rfl, rfl, hP, hQ, hb⟩ := hrel
            have HP := Lib.hid hP
            have HQ := Lib.hid hQ
            have HBl := Lib.hid hb
            clear hP hQ hb P6 Q6 B6
            by_cases hlt : i2 < n2
            · obtain ⟨g, off, rfl, hg, hc0⟩ := HC2.out i2 hlt
              obtain ⟨y, hy⟩ : ∃ y, st2 i2 = y := ⟨_, rfl⟩
              rw [hy] at hc0
              have hlI : (i2 : Int) < (n2 : Int) := by omega
              have hiI : (0 : Int) ≤ (i2 : Int) := by omega
              have HC := Lib.hid (fun (W : World) (hW : Below w.heap.size w W) => hc0.below hW hg)
              clear hc0 hy
              obtain ⟨kk, xb, xi, ⟨vs, vb, vx⟩⟩ := y
              obtain ⟨q0, q1, q2, q3, q4, q5⟩ := HC.out _ HBl.out
              by_cases z0 : kk = 0
              · as_aux_lemma =>
                  subst z0
                  have bd : Below wr.heap.size wr wr.drew := (Below.refl _ _).drew
                  have P0 := Lib.hid (HP.out.below bd)
                  have Q0 := Lib.hid (HQ.out.below bd)
                  have B0 := Lib.hid (HBl.out.trans (bd.mono HBl.out.size))
                  have HPp := Lib.hid (prepare_any a xb xi B _ P0.out)
                  have hz0 := B0.out.size
                  have hfew := prepL_few HP.out.good xb xi
                  go_wp2_with fail
                  clear bd HP HQ HBl q0 q1 q2 q3 q4 q5
                  obtain ⟨-, q1, q2, -, -, -⟩ := HC.out _ B0.out
                  go_region_held3 (fun w' => w'.cell? ⟨g, off + i2 * 6 + 1, none⟩ = some (.int .i64 xb) ∧ w'.cell? ⟨g, off + i2 * 6 + 2, none⟩ = some (.int .i64 xi))
                    (first | exact ⟨q1, q2⟩ | exact ⟨j1, j2⟩ | fail)
                    (first
                      | (go_at_call 13; (with_reducible refine HPp.out.mono ?_); rintro e w7 ⟨v, rfl, k0, k1, k2⟩; have V1 := Lib.hid k0; have P1 := Lib.hid k1; have Q1 := Lib.hid (Q0.out.fbB P0.out (Ne.symm hab) k2); have B1 := Lib.hid (below_fb B0.out k2 hla hz0); obtain ⟨-, j1, j2, -, -, -⟩ := HC.out _ B1.out; clear k0 k1 k2)
                      | fail)
                  clear q1 q2 j1 j2 HPp
                  have bd : Below w7.heap.size w7 w7.drew := (Below.refl _ _).drew
                  have P2 := Lib.hid (P1.out.below bd)
                  have Q2 := Lib.hid (Q1.out.below bd)
                  have V2 := Lib.hid (OwnsV.below bd V1.out)
                  have B2 := Lib.hid (B1.out.trans (bd.mono B1.out.size))
                  have HPq := Lib.hid (prepare_any b xb xi B _ Q2.out)
                  have hz2' := B2.out.size
                  clear bd P0 Q0 B0 P1 Q1 V1 B1
                  go_wp2_with fail
                  obtain ⟨-, q1, q2, -, -, -⟩ := HC.out _ B2.out
                  go_region_held3 (fun w' => w'.cell? ⟨g, off + i2 * 6 + 1, none⟩ = some (.int .i64 xb) ∧ w'.cell? ⟨g, off + i2 * 6 + 2, none⟩ = some (.int .i64 xi))
                    (first | exact ⟨q1, q2⟩ | exact ⟨j1, j2⟩ | fail)
                    (first
                      | (go_at_call 13; (with_reducible refine HPq.out.mono ?_); rintro e w8 ⟨u, rfl, k0, k1, k2⟩; have U3 := Lib.hid k0; have Q3 := Lib.hid k1; have P3 := Lib.hid (P2.out.fbB Q2.out hab k2); have V3 := Lib.hid (V2.out.fbA Q2.out (by decide) k2); have B3 := Lib.hid (below_fb B2.out k2 hlb hz2'); obtain ⟨-, j1, j2, -, -, -⟩ := HC.out _ B3.out; clear k0 k1 k2)
                      | fail)
                  clear q1 q2 j1 j2 HPq P2 Q2 V2 B2
                  generalize prepE B xb = er at *
                  go_wp2_with fail
                  go_at_call 16
                  refine (theirs_any V3.out hfew).mono ?_
                  rintro e w9 ⟨v9, rfl, k1, k2⟩
                  have X4 := Lib.hid k1
                  have U4 := Lib.hid (OwnsV.below k2 U3.out)
                  have P4 := Lib.hid (P3.out.below k2)
                  have Q4 := Lib.hid (Q3.out.below k2)
                  have B4 := Lib.hid (B3.out.trans (k2.mono B3.out.size))
                  clear k1 k2 V3 U3 P3 Q3 B3
                  go_wp2_with fail
                  go_at_call 16
                  refine (theirs_any U4.out hfew).mono ?_
                  rintro e w10 ⟨v10, rfl, k1, k2⟩
                  have Y5 := Lib.hid k1
                  have X5 := Lib.hid (OwnsV.below k2 X4.out)
                  have P5 := Lib.hid (P4.out.below k2)
                  have Q5 := Lib.hid (Q4.out.below k2)
                  have B5 := Lib.hid (B4.out.trans (k2.mono B4.out.size))
                  clear k1 k2 X4 U4 P4 Q4 B4
                  go_wp2_with fail
                  go_at_call 15
                  refine (same10_yes X5.out Y5.out hfew).mono ?_
                  rintro e w11 ⟨rfl, k2⟩
                  have P6 := Lib.hid (P5.out.below k2)
                  have Q6 := Lib.hid (Q5.out.below k2)
                  have B6 := Lib.hid (B5.out.trans (k2.mono B5.out.size))
                  clear k2 X5 Y5 P5 Q5 B5
                  go_wp2
                  go_roundg (n2 - (i2 + 1))
                  case measure => omega
                  case rel => exact ⟨i2 + 1, B.prep xb, by omega, rfl, by go_num, P6.out, Q6.out, B6.out⟩
              by_cases z1 : kk = 1
              · as_aux_lemma =>
                  subst z1
                  have bd : Below wr.heap.size wr wr.drew := (Below.refl _ _).drew
                  have P0 := Lib.hid (HP.out.below bd)
                  have Q0 := Lib.hid (HQ.out.below bd)
                  have B0 := Lib.hid (HBl.out.trans (bd.mono HBl.out.size))
                  have HAc := Lib.hid (accept_any a ⟨vs, vb, vx⟩ B _ P0.out)
                  have hz0 := B0.out.size
                  go_wp2_with fail
                  clear bd HP HQ HBl q0 q1 q2 q3 q4 q5
                  obtain ⟨-, -, -, q3, q4, q5⟩ := HC.out _ B0.out
                  go_region_held3 (fun w' => w'.cell? ⟨g, off + i2 * 6 + 3, none⟩ = some (.int .i64 vs) ∧ w'.cell? ⟨g, off + i2 * 6 + 3 + 1, none⟩ = some (.int .i64 vb) ∧ w'.cell? ⟨g, off + i2 * 6 + 3 + 2, none⟩ = some (.string vx))
                    (first | exact ⟨q3, q4, q5⟩ | exact ⟨j3, j4, j5⟩ | exact ⟨i3, i4, i5⟩ | fail)
                    (first
                      | (go_at_call 17; (with_reducible refine HAc.out.mono ?_); rintro e w7 ⟨rfl, k1, k2⟩; have P1 := Lib.hid k1; have Q1 := Lib.hid (Q0.out.fbB P0.out (Ne.symm hab) k2); have B1 := Lib.hid (below_fb B0.out k2 hla hz0); obtain ⟨-, -, -, j3, j4, j5⟩ := HC.out _ B1.out; clear k1 k2)
                      | (go_at_call 17; (with_reducible refine (accept_any b ⟨vs, vb, vx⟩ B _ Q1.out).mono ?_); rintro e w8 ⟨rfl, k1, k2⟩; have Q2 := Lib.hid k1; have P2 := Lib.hid (P1.out.fbB Q1.out hab k2); have B2 := Lib.hid (below_fb B1.out k2 hlb B1.out.size); obtain ⟨-, -, -, i3, i4, i5⟩ := HC.out _ B2.out; clear k1 k2)
                      | fail)
                  go_wp2
                  go_roundg (n2 - (i2 + 1))
                  case measure => omega
                  case rel => exact ⟨i2 + 1, B.accept ⟨vs, vb, vx⟩, by omega, rfl, by go_num, P2.out, Q2.out, B2.out⟩
              · as_aux_lemma =>
                  go_wp2
                  go_roundg (n2 - (i2 + 1))
                  case measure => omega
                  case rel => exact ⟨i2 + 1, B, by omega, rfl, by go_num, HP.out, HQ.out, HBl.out⟩
            · as_aux_lemma =>
                have hlI : ¬ ((i2 : Int) < (n2 : Int)) := by omega
                obtain rfl : i2 = n2 := by omega
                clear HC2
                have HTs := Lib.hid (HT.out.below HBl.out)
                have HSv := Lib.hid (save_any a B _ HP.out HTs.out)
                have HSw := Lib.hid (fun (W : World) (hW : PA W b B) (hTW : Tab W) => save_any b B W hW hTW)
                generalize saveOf B = sv at HSv HSw
                go_wp2_with fail
                go_at_call 19
                refine HSv.out.mono ?_
                rintro e w7 ⟨rfl, k1⟩
                have P7 := Lib.hid (HP.out.below k1)
                have Q7 := Lib.hid (HQ.out.below k1)
                have B7 := Lib.hid (HBl.out.trans (k1.mono HBl.out.size))
                clear k1 HSv HP HQ HBl HTs
                go_wp2_with fail
                go_at_call 19
                refine (HSw.out _ Q7.out (HT.out.below B7.out)).mono ?_
                rintro e w8 ⟨rfl, k1⟩
                have P8 := Lib.hid (P7.out.below k1)
                have Q8 := Lib.hid (Q7.out.below k1)
                have B8 := Lib.hid (B7.out.trans (k1.mono B7.out.size))
                clear k1 HSw P7 Q7 B7
                have HPa := Lib.hid (promised_any a B.p B.l _ P8.out.pc)
                have HPb := Lib.hid (promised_any b B.p B.l _ Q8.out.pc)
                go_wp2_with fail
                go_at_call 12
                refine HPa.out.mono ?_
                rintro e w' ⟨rfl, rfl⟩
                go_wp2_with fail
                go_at_call 12
                refine HPb.out.mono ?_
                rintro e w' ⟨rfl, rfl⟩
                go_wp2
                go_ret
                exact ⟨rfl, B8.out⟩
end Go.Proofs.YtacbodojbekeeaaDoor
