/-
  QuorumDown (weirkeeplaw11), walked.
-/
import Derived.Test.YtkcbmkedhipgeaaGreatDoorChs11
namespace Go.Proofs.YtkcbmkedhipgeaaGreatDoor
open Go.RowKit Go.ChangeMaps

set_option maxRecDepth 100000 in
set_option maxHeartbeats 3000000 in
theorem quorumDown_any (nd : Nat) (hnd : nd < 256) (x : ByteArray) (A : Option Addr) (n c : Nat) (st : Nat → Stp) (w : World) (hT : Tab w) (hE : ErrType w) (hS : SIn w A n st) (hn : n ≤ 9223372036854775807) :
    Calls Tryz.prog 8 #[.slice A n c, .int .u8 (nd : Int), .string x] w fun e w' => e = .returned (.bool true) ∧ Below w.heap.size w w' := by
  have HH := Lib.hid (heavy_any (c := c) hS hn)
  have HSh := Lib.hid (fun (W : World) => shown_any W)
  have HT := Lib.hid hT
  have HE := Lib.hid hE
  have HB := Lib.hid hS
  clear hT hE hS
  go_enter Tryz.func8, Tryz.ntmps8
  go_wp2_with fail
  go_at_call 9
  refine HH.out.mono ?_
  rintro e w0 ⟨hv, rfl, rfl, hno⟩
  clear HH
  cases hv with
  | true =>
    clear hno
    go_wp2_with (go_at_call 10; refine (HSh.out _).mono ?_; rintro e w' ⟨rfl, hb⟩; have HBs := Lib.hid hb; clear hb)
    go_ret
    exact ⟨rfl, HBs.out⟩
  | false =>
    have hn80 := hno rfl
    clear hno
    by_cases hxs : 256 < x.size
    · have hxI : (256 : Int) < (x.size : Int) := by omega
      go_wp2_with (go_at_call 10; refine (HSh.out _).mono ?_; rintro e w' ⟨rfl, hb⟩; have HBs := Lib.hid hb; clear hb)
      go_ret
      exact ⟨rfl, HBs.out⟩
    by_cases hn4 : 40 < n
    · have hxI : ¬ (256 : Int) < (x.size : Int) := by omega
      have hnI : (40 : Int) < (n : Int) := by omega
      go_wp2_with (go_at_call 10; refine (HSh.out _).mono ?_; rintro e w' ⟨rfl, hb⟩; have HBs := Lib.hid hb; clear hb)
      go_ret
      exact ⟨rfl, HBs.out⟩
    have hxI : ¬ (256 : Int) < (x.size : Int) := by omega
    have hnI : ¬ (40 : Int) < (n : Int) := by omega
    obtain ⟨q, hq⟩ : ∃ q : Nat, q = 3 := ⟨_, rfl⟩
    have hq1 : min (max (3 : Int) 1) 5 = (q : Int) := by omega
    have hq2 : max 1 (min (3 : Int) 5) = (q : Int) := by omega
    have hq0 : 0 < q := by omega
    have hq5 : q ≤ 5 := by omega

    go_wp2_with fail
    go_at_call 10
    refine (HSh.out _).mono ?_
    rintro e w1 ⟨rfl, hb1⟩
    have HB1 := Lib.hid hb1
    clear hb1 HSh
    go_wp2_with fail
    go_at_call 11
    refine (new11_any 3 q w1 hq1 hq0 hq5).mono ?_
    rintro e w2 ⟨g, P0, rfl, hp, hPB, hb2⟩
    have HP := Lib.hid hp
    have HPB := Lib.hid hPB
    have HB2 := Lib.hid hb2
    clear hp hPB hb2
    go_wp2_with fail
    go_at_call 12
    refine (rnew11_any 3 q w2 hq2 hq0 hq5).mono ?_
    rintro e w3 ⟨r, Q0, rfl, hr, hQB, hb3⟩
    have H3 := Lib.hid (BB.start HB1.out HP.out HPB.out HB2.out hr hQB hb3)
    clear hr hQB hb3 HP HPB HB1 HB2
    go_wp2_with fail
    go_loopw [9] (fun iv wr => ∃ (i : Nat) (S : Gp) (P : Pl) (Q : Ql), i ≤ n ∧ iv = .int .i64 i ∧ S.n = q ∧ LV S i ∧ BB w wr g r S S P Q) (fun iv _ => n - (RowKit.intOf iv).toNat)
    case atStart => exact ⟨0, _, P0, Q0, Nat.zero_le _, rfl, rfl, LV.start q hq0 hq5, H3.out⟩
    case round =>
      obtain ⟨i, S, P, Q, hi, rfl, hSn, hL, hbb⟩ := hrel
      have HL := Lib.hid hL
      have HBB := Lib.hid hbb
      clear hL hbb H3
      by_cases hlt : i < n
      · obtain ⟨ga, off, rfl, hc⟩ := HB.out.cells HBB.out.un hlt
        obtain ⟨o, ho⟩ : ∃ o, st i = o := ⟨_, rfl⟩
        rw [ho] at hc
        obtain ⟨q0, q1, q2, q3, q4, q5⟩ := hc
        have hlI : (i : Int) < (n : Int) := by omega
        have hiI : (0 : Int) ≤ (i : Int) := by omega
        have HD := Lib.hid (does_any HBB.out HL.out (by omega) HT.out HE.out o q5)
        have HL2 := Lib.hid (HL.out.does o)
        have hn2 := (do_n HL.out o).trans hSn
        clear ho
        go_wp2_with fail
        go_at_call 14
        refine HD.out.mono ?_
        rintro e w4 ⟨P', Q', rfl, h4, x4⟩
        have H4 := Lib.hid h4
        clear HD h4 x4 HBB HL q0 q1 q2 q3 q4
        go_wp2
        go_roundw
        case rel => exact ⟨i + 1, _, P', Q', by omega, by go_num, hn2, HL2.out, H4.out⟩
        case measure => simp only [RowKit.intOf]; omega
      · have hlI : ¬ ((i : Int) < (n : Int)) := by omega
        obtain rfl : i = n := by omega
        obtain rfl : q = 3 := hq
        obtain ⟨k, hk⟩ : ∃ k, nd % 3 = k := ⟨_, rfl⟩
        have hk3 : k < 3 := by omega
        have hkm : (nd : Int) % 3 = (k : Int) := by rw [← hk]; rfl
        have hkm' : (nd : Int).tmod 3 = (k : Int) := by rw [← hk]; exact (Int.ofNat_tmod nd 3).symm
        obtain ⟨p, hp⟩ : ∃ p, (k + 1) % 3 = p := ⟨_, rfl⟩
        have hp3 : p < 3 := by omega
        have hpk : p ≠ k := by omega
        have hpm : ((k : Int) + 1) % 3 = (p : Int) := by rw [← hp]; rfl
        have hpm' : ((k : Int) + 1).tmod 3 = (p : Int) := by rw [← hp]; exact (Int.ofNat_tmod (k + 1) 3).symm
        have hndI : (nd : Int) < 256 := by omega
        have hnd0 : 0 ≤ (nd : Int) := by omega
        clear hk hp
        go_wp2_with fail
        go_loopw [12] (fun iv wx => ∃ (i2 : Nat) (P2 : Pl), i2 ≤ 3 ∧ iv = .int .i64 i2 ∧ BB w wx g r (setsF S (fun _ => true) i2) S P2 Q) (fun iv _ => 3 - (RowKit.intOf iv).toNat)
        case atStart => exact ⟨0, P, by omega, rfl, HBB.out⟩
        case round =>
          obtain ⟨i2, P2, hi2, rfl, hb2⟩ := hrel
          have HB2 := Lib.hid hb2
          clear hb2 HBB
          by_cases hlt2 : i2 < 3
          · have hltI : (i2 : Int) < 3 := by omega
            have HD := Lib.hid (bb_up HB2.out HT.out HE.out i2)
            go_wp2_with fail
            go_at_call 20
            refine HD.out.mono ?_
            rintro e w4 ⟨P3, rfl, h4, -⟩
            have H4 := Lib.hid h4
            clear h4 HD
            go_wp2
            go_roundw
            case rel => exact ⟨i2 + 1, P3, by omega, by go_num, H4.out⟩
            case measure => simp only [RowKit.intOf]; omega
          · have hltI : ¬ (i2 : Int) < 3 := by omega
            obtain rfl : i2 = 3 := by omega
            have hL1 := HL.out.setsF (fun _ => true) 3
            have hn1 : (setsF S (fun _ => true) 3).n = 3 := (setsF_n S _ 3).trans hSn
            have hu : ∀ j, j < 3 → ((setsF S (fun _ => true) 3).nd j).up = true := fun j hj => setsF_up 3 (by omega) j hj
            generalize setsF S (fun _ => true) 3 = S1 at HB2 hL1 hn1 hu
            -- k goes down: S2
            have hk1 : k < S1.n := by omega
            have hL2 := hL1.sets k false
            have hn2 : (setS S1 k false).n = 3 := (set_n _ _).trans hn1
            have hd2 : ((setS S1 k false).nd k).up = false := by rw [setS_nd hk1, if_pos rfl]
            have hu2 : ∀ j, j < 3 → ((setS S1 k false).nd j).up = decide (j ≠ k) := fun j hj => by
              rw [setS_nd hk1]
              by_cases e : j = k
              · rw [if_pos e, decide_eq_false (fun h => h e)]
              · rw [if_neg e, decide_eq_true e]; exact hu j hj
            have hse : setE S1 k = 0 := setE_nat hk1
            have hlog2 : logOf (setS S1 k false) k = logOf S1 k := by rw [logOf_at hk1, logOf_at (by rw [hn2]; exact hk3), setS_log]
            have hl1 := logOf_len hL1 k
            have HG := Lib.hid (bb_log HB2.out hL1 (by omega) k)
            have HDn := Lib.hid (fun (W : World) (h : BB w W g r S1 S P2 Q) => bb_down h HT.out k)
            rw [hse] at HDn
            generalize setS S1 k false = S2 at hL2 hn2 hd2 hu2 hlog2 HDn
            have hk2 : k < S2.n := by omega
            have hp2 : p < S2.n := by omega
            obtain ⟨d1, d2, d3, d4⟩ := down_no hk2 hd2 x 0 p hp2
            have hup2 : (S2.nd p).up = true := by rw [hu2 p hp3]; exact decide_eq_true hpk
            have hM2 : S2.n < 2 * cntP S2.n fun j => (S2.nd j).up := by
              rw [hn2, cntP_eq (q := fun j => decide (j ≠ k)) (fun j hj => hu2 j hj), three_cnt k hk3]; omega
            obtain ⟨y1, y2⟩ := two_yes hL2 (by omega) hp2 hup2 (show x.size ≤ 1024 by omega) hM2
            have hn3 := pro_n hL2 p x 0
            have hL3 := hL2.pro p x 0
            have hn4 := pro_n hL3 p x 0
            have hL4 := hL3.pro p x 0
            have hlp : (logOf S2 p).length + 1 ≤ (logOf (proS (proS S2 p x 0) p x 0) p).length := by rw [logOf_at hp2, logOf_at (by rw [hn4, hn3]; exact hp2)]; exact y2
            have hlk4 : logOf (proS (proS S2 p x 0) p x 0) k = logOf S1 k := by
              rw [← hlog2, logOf_at hk2, logOf_at (by rw [hn4, hn3]; exact hk2), (pro_log _ p x 0 k).2 (Ne.symm hpk), (pro_log _ p x 0 k).2 (Ne.symm hpk)]
            have hup4 : ((proS (proS S2 p x 0) p x 0).nd p).up = true := by rw [pro_up, pro_up]; exact hup2
            have hlm2 := logOf_len hL2 p
            have hlm4 := logOf_len hL4 p
            have HL2 := Lib.hid hL2
            have HL3 := Lib.hid hL3
            have hn4' : (proS (proS S2 p x 0) p x 0).n = 3 := by rw [hn4, hn3]; exact hn2
            clear hL1 hL3 hn3 hn4 y2 hM2 hd2 hu2 hu hse HB2
            go_wp2_with fail
            go_at_call 16
            refine HG.out.mono ?_
            rintro e w4 ⟨v1, rfl, o1, f1, h4, -⟩
            obtain ⟨l1, e1⟩ : ∃ l, logOf S1 k = l := ⟨_, rfl⟩
            rw [e1] at o1 hl1 hlog2 hlk4
            obtain ⟨A1, c1, rfl, -⟩ := o1.form
            have O1 := Lib.hid o1
            have F1 := Lib.hid f1
            have HD := Lib.hid (HDn.out w4 h4)
            have hl200 : ¬ (200 : Int) < (l1.length : Int) := by omega
            clear HG HDn h4 o1 f1 e1
            go_wp2_with fail
            go_at_call 23
            refine HD.out.mono ?_
            rintro e w5 ⟨P5, rfl, h5, x5⟩
            obtain ⟨o5, f5⟩ := x5.texts O1.out F1.out
            have O5 := Lib.hid o5
            have F5 := Lib.hid f5
            have HP := Lib.hid (bb_pro0 h5 HL2.out k x)
            rw [d1, d2] at HP
            clear HD h5 x5 o5 f5 O1 F1
            go_wp2_with fail
            go_at_call 21
            refine HP.out.mono ?_
            rintro e w6 ⟨P6, rfl, h6, x6⟩
            rw [hn2, ← hn1] at x6
            obtain ⟨o6, f6⟩ := x6.texts O5.out F5.out
            have O6 := Lib.hid o6
            have F6 := Lib.hid (show ∀ q, (Value.slice A1 l1.length c1).ownBlock = some q → ¬ P6.F S2.n q by rw [hn2, ← hn1]; exact f6)
            have HLe := Lib.hid (bb_lea h6 HL2.out (by omega) k p)
            rw [d3, d4] at HLe
            clear HP h6 x6 o6 f6 O5 F5
            go_wp2_with fail
            go_at_call 22
            refine HLe.out.mono ?_
            rintro e w7 ⟨P7, rfl, h7, x7⟩
            obtain ⟨o7, f7⟩ := x7.texts O6.out F6.out
            have O7 := Lib.hid o7
            have F7 := Lib.hid f7
            have HG := Lib.hid (bb_log h7 HL2.out (by omega) k)
            rw [hlog2] at HG
            clear HLe h7 x7 o7 f7 O6 F6 d1 d2 d3 d4
            go_wp2_with fail
            go_at_call 16
            refine HG.out.mono ?_
            rintro e w8 ⟨v2, rfl, o2, -, h8, b8⟩
            have O8 := Lib.hid (OwnsS.below b8 O7.out)
            have HQ := Lib.hid (same11_yes o2.sh O8.out.sh (by omega))
            have H8 := Lib.hid h8
            clear HG h8 b8 o2 O7
            go_wp2_with fail
            go_at_call 15
            refine HQ.out.mono ?_
            rintro e w9 ⟨rfl, b9⟩
            have O9 := Lib.hid (OwnsS.below b9 O8.out)
            obtain ⟨h9, -⟩ := H8.out.below b9
            have HG := Lib.hid (bb_log h9 HL2.out (by omega) p)
            clear HQ h9 b9 O8 H8
            go_wp2_with fail
            go_at_call 16
            refine HG.out.mono ?_
            rintro e wA ⟨v3, rfl, o3, -, hA, bA⟩
            obtain ⟨A3, c3, rfl, -⟩ := o3.form
            have OA := Lib.hid (OwnsS.below bA O9.out)
            have HP := Lib.hid (bb_pro0 hA HL2.out p x)
            clear HG hA bA o3 O9
            go_wp2_with fail
            go_at_call 21
            refine HP.out.mono ?_
            rintro e wB ⟨PB, rfl, hB, xB⟩
            obtain ⟨oB, fB⟩ := xB.texts OA.out F7.out
            have OB := Lib.hid oB
            have FB := Lib.hid fB
            have HP2 := Lib.hid (bb_pro0 hB HL3.out p x)
            rw [y1] at HP2
            have hnS3 := pro_n HL2.out p x 0
            clear HP hB xB oB fB OA F7
            go_wp2_with fail
            go_at_call 21
            refine HP2.out.mono ?_
            rintro e wC ⟨PC, rfl, hC, xC⟩
            rw [hnS3] at xC
            obtain ⟨oC, fC⟩ := xC.texts OB.out FB.out
            have OC := Lib.hid oC
            have FC := Lib.hid fC
            have HL4 := Lib.hid hL4
            clear HP2 xC oC fC OB FB y1 hL4 hnS3 HL3
            generalize proS (proS S2 p x 0) p x 0 = S4 at hC HL4 hlp hlk4 hup4 hlm4 hn4'
            have hk4 : k < S4.n := by omega
            have HG := Lib.hid (bb_log hC HL4.out (by omega) p)
            clear hC
            go_wp2_with fail
            go_at_call 16
            refine HG.out.mono ?_
            rintro e wD ⟨v4, rfl, o4, -, hD, bD⟩
            obtain ⟨A4, c4, rfl, -⟩ := o4.form
            have OD := Lib.hid (OwnsS.below bD OC.out)
            have hgt : ¬ ((logOf S4 p).length : Int) ≤ ((logOf S2 p).length : Int) := by omega
            have HU := Lib.hid (bb_up hD HT.out HE.out k)
            rw [setE_nat hk4] at HU
            have hL5 := HL4.out.sets k true
            have hn5 : (setS S4 k true).n = 3 := (set_n _ _).trans hn4'
            have huk5 : ((setS S4 k true).nd k).up = true := by rw [setS_nd hk4, if_pos rfl]
            have hup5 : ((setS S4 k true).nd p).up = true := by rw [setS_nd hk4, if_neg hpk]; exact hup4
            have hlog5 : logOf (setS S4 k true) k = l1 := by rw [logOf_at (by rw [hn5]; exact hk3), setS_log, ← logOf_at hk4]; exact hlk4
            have HL5 := Lib.hid hL5
            clear HG hD bD o4 OC hL5
            generalize setS S4 k true = S5 at HU HL5 hn5 huk5 hup5 hlog5
            go_wp2_with fail
            go_at_call 20
            refine HU.out.mono ?_
            rintro e wE ⟨PE, rfl, hE5, xE⟩
            rw [hn4', ← hn2] at xE
            obtain ⟨oE, fE⟩ := xE.texts OD.out FC.out
            have OE := Lib.hid oE
            have HG := Lib.hid (bb_log hE5 HL5.out (by omega) k)
            rw [hlog5] at HG
            clear HU hE5 xE oE fE OD FC
            go_wp2_with fail
            go_at_call 16
            refine HG.out.mono ?_
            rintro e wF ⟨v5, rfl, o5, -, hF, bF⟩
            have HQ := Lib.hid (same11_yes o5.sh (OwnsS.below bF OE.out).sh (by omega))
            have HF := Lib.hid hF
            clear HG hF bF o5 OE
            go_wp2_with fail
            go_at_call 15
            refine HQ.out.mono ?_
            rintro e wG ⟨rfl, bG⟩
            obtain ⟨hG, -⟩ := HF.out.below bG
            obtain ⟨z1, z2⟩ := lea_yes (S := S5) (a := k) (b := p) (by omega) (by omega) huk5 hup5
            have HLe := Lib.hid (bb_lea hG HL5.out (by omega) k p)
            rw [z1] at HLe
            have HL6 := Lib.hid (HL5.out.lea k p)
            clear HQ hG bG HF
            go_wp2_with fail
            go_at_call 22
            refine HLe.out.mono ?_
            rintro e wH ⟨PH, rfl, hH, -⟩
            have HG := Lib.hid (bb_log hH HL6.out (by omega) k)
            clear HLe hH
            go_wp2_with fail
            go_at_call 16
            refine HG.out.mono ?_
            rintro e wI ⟨v6, rfl, o6, -, hI, -⟩
            obtain ⟨A6, c6, rfl, -⟩ := o6.form
            have HG2 := Lib.hid (bb_log hI HL6.out (by omega) p)
            clear HG hI o6
            go_wp2_with fail
            go_at_call 16
            refine HG2.out.mono ?_
            rintro e wJ ⟨v7, rfl, o7, -, hJ, -⟩
            obtain ⟨A7, c7, rfl, -⟩ := o7.form
            have zI : ((logOf (leaS S5 k p) p).length : Int) ≤ ((logOf (leaS S5 k p) k).length : Int) := by omega
            have HJ := Lib.hid hJ.un
            clear HG2 hJ o7 z2
            go_wp2
            go_ret
            exact ⟨rfl, HJ.out⟩
end Go.Proofs.YtkcbmkedhipgeaaGreatDoor
