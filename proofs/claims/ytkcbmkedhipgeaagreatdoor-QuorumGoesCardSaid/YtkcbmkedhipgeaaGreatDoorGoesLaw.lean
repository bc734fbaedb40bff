/-
  QuorumGoes (weirkeeplaw11), walked.
-/
import Derived.Test.YtkcbmkedhipgeaaGreatDoorChs11
namespace Go.Proofs.YtkcbmkedhipgeaaGreatDoor
open Go.RowKit Go.ChangeMaps

set_option maxRecDepth 100000 in
set_option maxHeartbeats 3000000 in
theorem quorumGoes_any (n0 : Int) (nd : Nat) (hnd : nd < 256) (x : ByteArray) (A : Option Addr) (n c : Nat) (st : Nat → Stp) (w : World) (hT : Tab w) (hE : ErrType w) (hS : SIn w A n st) (hn : n ≤ 9223372036854775807) :
    Calls Tryz.prog 5 #[.int .i64 n0, .slice A n c, .int .u8 (nd : Int), .string x] w fun e w' => e = .returned (.bool true) ∧ Below w.heap.size w w' := by
  have HH := Lib.hid (heavy_any (c := c) hS hn)
  have HSh := Lib.hid (fun (W : World) => shown_any W)
  have HT := Lib.hid hT
  have HE := Lib.hid hE
  have HB := Lib.hid hS
  clear hT hE hS
  go_enter Tryz.func5, Tryz.ntmps5
  go_wp2_with fail
  go_at_call 9
  refine HH.out.mono ?_
  rintro e w0 ⟨hv, rfl, rfl, hno⟩
  clear HH
  cases hv with
  | true =>
    clear hno
    go_wp2_with (go_at_call 10; refine (HSh.out _).mono ?_; rintro e w' ⟨rfl, hb⟩; have HBs := Lib.hid hb; clear hb)
    go_ret
    exact ⟨rfl, HBs.out⟩
  | false =>
    have hn80 := hno rfl
    clear hno
    by_cases hxs : 256 < x.size
    · have hxI : (256 : Int) < (x.size : Int) := by omega
      go_wp2_with (go_at_call 10; refine (HSh.out _).mono ?_; rintro e w' ⟨rfl, hb⟩; have HBs := Lib.hid hb; clear hb)
      go_ret
      exact ⟨rfl, HBs.out⟩
    by_cases hn4 : 40 < n
    · have hxI : ¬ (256 : Int) < (x.size : Int) := by omega
      have hnI : (40 : Int) < (n : Int) := by omega
      go_wp2_with (go_at_call 10; refine (HSh.out _).mono ?_; rintro e w' ⟨rfl, hb⟩; have HBs := Lib.hid hb; clear hb)
      go_ret
      exact ⟨rfl, HBs.out⟩
    have hxI : ¬ (256 : Int) < (x.size : Int) := by omega
    have hnI : ¬ (40 : Int) < (n : Int) := by omega
    obtain ⟨q, hq1⟩ : ∃ q : Nat, min (max n0 1) 5 = (q : Int) := ⟨(min (max n0 1) 5).toNat, by omega⟩
    have hq2 : max 1 (min n0 5) = (q : Int) := by omega
    have hq0 : 0 < q := by omega
    have hq5 : q ≤ 5 := by omega

    go_wp2_with fail
    go_at_call 10
    refine (HSh.out _).mono ?_
    rintro e w1 ⟨rfl, hb1⟩
    have HB1 := Lib.hid hb1
    clear hb1 HSh
    go_wp2_with fail
    go_at_call 11
    refine (new11_any n0 q w1 hq1 hq0 hq5).mono ?_
    rintro e w2 ⟨g, P0, rfl, hp, hPB, hb2⟩
    have HP := Lib.hid hp
    have HPB := Lib.hid hPB
    have HB2 := Lib.hid hb2
    clear hp hPB hb2
    go_wp2_with fail
    go_at_call 12
    refine (rnew11_any n0 q w2 hq2 hq0 hq5).mono ?_
    rintro e w3 ⟨r, Q0, rfl, hr, hQB, hb3⟩
    have H3 := Lib.hid (BB.start HB1.out HP.out HPB.out HB2.out hr hQB hb3)
    clear hr hQB hb3 HP HPB HB1 HB2
    go_wp2_with fail
    go_loopw [11] (fun iv wr => ∃ (i : Nat) (S : Gp) (P : Pl) (Q : Ql), i ≤ n ∧ iv = .int .i64 i ∧ S.n = q ∧ LV S i ∧ BB w wr g r S S P Q) (fun iv _ => n - (RowKit.intOf iv).toNat)
    case atStart => exact ⟨0, _, P0, Q0, Nat.zero_le _, rfl, rfl, LV.start q hq0 hq5, H3.out⟩
    case round =>
      obtain ⟨i, S, P, Q, hi, rfl, hSn, hL, hbb⟩ := hrel
      have HL := Lib.hid hL
      have HBB := Lib.hid hbb
      clear hL hbb H3
      by_cases hlt : i < n
      · obtain ⟨ga, off, rfl, hc⟩ := HB.out.cells HBB.out.un hlt
        obtain ⟨o, ho⟩ : ∃ o, st i = o := ⟨_, rfl⟩
        rw [ho] at hc
        obtain ⟨q0, q1, q2, q3, q4, q5⟩ := hc
        have hlI : (i : Int) < (n : Int) := by omega
        have hiI : (0 : Int) ≤ (i : Int) := by omega
        have HD := Lib.hid (does_any HBB.out HL.out (by omega) HT.out HE.out o q5)
        have HL2 := Lib.hid (HL.out.does o)
        have hn2 := (do_n HL.out o).trans hSn
        clear ho
        go_wp2_with fail
        go_at_call 14
        refine HD.out.mono ?_
        rintro e w4 ⟨P', Q', rfl, h4, x4⟩
        have H4 := Lib.hid h4
        clear HD h4 x4 HBB HL q0 q1 q2 q3 q4
        go_wp2
        go_roundw
        case rel => exact ⟨i + 1, _, P', Q', by omega, by go_num, hn2, HL2.out, H4.out⟩
        case measure => simp only [RowKit.intOf]; omega
      · have hlI : ¬ ((i : Int) < (n : Int)) := by omega
        obtain rfl : i = n := by omega
        go_wp2_with fail
        go_loopw [12] (fun iv wx => ∃ (i2 : Nat) (P2 : Pl), i2 ≤ q ∧ iv = .int .i64 i2 ∧ BB w wx g r (setsF S (fun _ => true) i2) S P2 Q) (fun iv _ => q - (RowKit.intOf iv).toNat)
        case atStart => exact ⟨0, P, by omega, rfl, HBB.out⟩
        case round =>
          obtain ⟨i2, P2, hi2, rfl, hb2⟩ := hrel
          have HB2 := Lib.hid hb2
          have hlen := len_any hb2.pg
          rw [setsF_n, hSn] at hlen
          have HLen := Lib.hid hlen
          clear hb2 HBB hlen
          by_cases hlt2 : i2 < q
          · have hltI : (i2 : Int) < (q : Int) := by omega
            have HD := Lib.hid (bb_up HB2.out HT.out HE.out i2)
            go_wp2_with (first
              | (go_at_call 13; (with_reducible refine HLen.out.mono ?_); rintro e w4 ⟨rfl, rfl⟩)
              | fail)
            go_at_call 20
            refine HD.out.mono ?_
            rintro e w4 ⟨P3, rfl, h4, -⟩
            have H4 := Lib.hid h4
            clear h4 HD HLen
            go_wp2
            go_roundw
            case rel => exact ⟨i2 + 1, P3, by omega, by go_num, H4.out⟩
            case measure => simp only [RowKit.intOf]; omega
          · have hltI : ¬ (i2 : Int) < (q : Int) := by omega
            obtain rfl : i2 = q := by omega
            obtain ⟨k, hk⟩ : ∃ k, nd % i2 = k := ⟨_, rfl⟩
            have hkq : k < i2 := by rw [← hk]; exact Nat.mod_lt _ hq0
            have hkm : (nd : Int) % (i2 : Int) = (k : Int) := by rw [← hk]; rfl
            have hndI : (nd : Int) < 256 := by omega
            have hnd0 : 0 ≤ (nd : Int) := by omega
            have hqI : ¬ (i2 : Int) = 0 := by omega
            have hqI' : 0 < (i2 : Int) := by omega
            have hL1 := HL.out.setsF (fun _ => true) i2
            have hn1 : (setsF S (fun _ => true) i2).n = i2 := (setsF_n S _ i2).trans hSn
            have hu : ∀ j, j < i2 → ((setsF S (fun _ => true) i2).nd j).up = true := fun j hj => setsF_up i2 (by omega) j hj
            clear hk
            generalize setsF S (fun _ => true) i2 = S1 at HB2 hL1 hn1 hu
            have hk1 : k < S1.n := by omega
            have hM : S1.n < 2 * cntP S1.n fun j => (S1.nd j).up := by rw [cntP_all (fun j hj => hu j (by omega))]; omega
            obtain ⟨y1, y2⟩ := two_yes hL1 (by omega) hk1 (hu k hkq) (show x.size ≤ 1024 by omega) hM
            have hn2 := pro_n hL1 k x 0
            have hL2 := hL1.pro k x 0
            have hn3 := pro_n hL2 k x 0
            have hL3 := hL2.pro k x 0
            have hl1 := logOf_len hL1 k
            have hlk : (logOf S1 k).length + 1 ≤ (logOf (proS (proS S1 k x 0) k x 0) k).length := by rw [logOf_at hk1, logOf_at (by rw [hn3, hn2]; exact hk1)]; exact y2
            have hl3 := logOf_len hL3 k
            have HG := Lib.hid (bb_log HB2.out hL1 (by omega) k)
            have hu3 : ∀ j, j < i2 → ((proS (proS S1 k x 0) k x 0).nd j).up = true := fun j hj => by rw [pro_up, pro_up]; exact hu j hj
            have HL1 := Lib.hid hL1
            have HL2 := Lib.hid hL2
            have HL3 := Lib.hid hL3
            have HU3 := Lib.hid hu3
            clear hL1 hL2 hL3 y2 HB2 hu hu3 hM
            go_wp2_with (first
              | (go_at_call 13; (with_reducible refine HLen.out.mono ?_); rintro e w4 ⟨rfl, rfl⟩)
              | fail)
            go_at_call 16
            refine HG.out.mono ?_
            rintro e w4 ⟨v1, rfl, o1, -, h4, -⟩
            obtain ⟨A1, c1, rfl, -⟩ := o1.form
            have hl4 : ¬ (4095 : Int) ≤ ((logOf S1 k).length : Int) := by omega
            have HP := Lib.hid (bb_pro0 h4 HL1.out k x)
            clear HG h4 o1 HLen
            go_wp2_with fail
            go_at_call 21
            refine HP.out.mono ?_
            rintro e w5 ⟨P4, rfl, h5, -⟩
            have HP2 := Lib.hid (bb_pro0 h5 HL2.out k x)
            rw [y1] at HP2
            clear HP h5
            go_wp2_with fail
            go_at_call 21
            refine HP2.out.mono ?_
            rintro e w6 ⟨P5, rfl, h6, -⟩
            have HG := Lib.hid (bb_log h6 HL3.out (by omega) k)
            clear HP2 h6
            go_wp2_with fail
            go_at_call 16
            refine HG.out.mono ?_
            rintro e w7 ⟨v2, rfl, o2, -, h7, -⟩
            obtain ⟨A2, c2, rfl, -⟩ := o2.form
            have hlI2 : ¬ ((logOf (proS (proS S1 k x 0) k x 0) k).length : Int) < ((logOf S1 k).length : Int) + 1 := by omega
            have H7 := Lib.hid h7
            have hn3' : (proS (proS S1 k x 0) k x 0).n = i2 := by rw [hn3, hn2, hn1]
            clear HG h7 o2
            go_wp2_with fail
            clear hlk hl3
            generalize proS (proS S1 k x 0) k x 0 = S3 at H7 HL3 HU3 hn3' hlI2
            go_loopw [18] (fun iv wx => ∃ (i3 : Nat) (T : Gp) (P3 : Pl), i3 ≤ i2 ∧ iv = .int .i64 i3 ∧ T.n = i2 ∧ LV T (i + 1 + 1) ∧ (∀ j, j < i2 → (T.nd j).up = true) ∧ BB w wx g r T S P3 Q) (fun iv _ => i2 - (RowKit.intOf iv).toNat)
            case atStart => exact ⟨0, S3, P5, Nat.zero_le _, rfl, hn3', HL3.out, HU3.out, H7.out⟩
            case round =>
              obtain ⟨i3, T, P3, hi3, rfl, hTn, hLT, huT, hb3⟩ := hrel
              have hlen := len_any hb3.pg
              rw [hTn] at hlen
              have HLen := Lib.hid hlen
              have HBx := Lib.hid hb3
              have HLT := Lib.hid hLT
              have HUT := Lib.hid huT
              clear hb3 hlen hLT huT H7 HL3 HU3
              by_cases hlt3 : i3 < i2
              · have hlI3 : (i3 : Int) < (i2 : Int) := by omega
                obtain ⟨-, z2⟩ := lea_yes (S := T) (a := i3) (b := k) (by omega) (by omega) (HUT.out i3 hlt3) (HUT.out k hkq)
                have HLT2 := Lib.hid (HLT.out.lea i3 k)
                have hnl := (lea_n HLT.out i3 k).trans hTn
                have HUT2 := Lib.hid (show ∀ j, j < i2 → ((leaS T i3 k).nd j).up = true from fun j hj => by rw [lea_up]; exact HUT.out j hj)
                have HLe := Lib.hid (bb_lea HBx.out HLT.out (by omega) i3 k)
                clear HBx
                go_wp2_with (first
                  | (go_at_call 13; (with_reducible refine HLen.out.mono ?_); rintro e w8 ⟨rfl, rfl⟩)
                  | fail)
                go_at_call 22
                refine HLe.out.mono ?_
                rintro e w8 ⟨P6, rfl, h8, -⟩
                have HG := Lib.hid (bb_log h8 HLT2.out (by omega) i3)
                clear HLe h8 HLen
                go_wp2_with fail
                go_at_call 16
                refine HG.out.mono ?_
                rintro e w9 ⟨v3, rfl, o3, -, h9, -⟩
                obtain ⟨A3, c3, rfl, -⟩ := o3.form
                have HG2 := Lib.hid (bb_log h9 HLT2.out (by omega) k)
                clear HG h9 o3
                go_wp2_with fail
                go_at_call 16
                refine HG2.out.mono ?_
                rintro e wA ⟨v4, rfl, o4, -, hA, -⟩
                obtain ⟨A4, c4, rfl, -⟩ := o4.form
                have zI : ¬ ((logOf (leaS T i3 k) i3).length : Int) < ((logOf (leaS T i3 k) k).length : Int) := by omega
                have HA := Lib.hid hA
                clear HG2 hA o4 z2
                go_wp2
                go_roundw
                case rel => exact ⟨i3 + 1, _, P6, by omega, by go_num, hnl, HLT2.out, HUT2.out, HA.out⟩
                case measure => simp only [RowKit.intOf]; omega
              · have hlI3 : ¬ (i3 : Int) < (i2 : Int) := by omega
                go_wp2_with (go_at_call 13; (with_reducible refine HLen.out.mono ?_); rintro e w8 ⟨rfl, rfl⟩)
                go_ret
                exact ⟨rfl, HBx.out.un⟩
end Go.Proofs.YtkcbmkedhipgeaaGreatDoor
