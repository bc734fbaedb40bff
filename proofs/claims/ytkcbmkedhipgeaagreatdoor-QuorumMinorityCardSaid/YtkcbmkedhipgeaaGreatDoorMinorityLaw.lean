/-
  QuorumMinority (weirkeeplaw11), walked.
-/
import Derived.Test.YtkcbmkedhipgeaaGreatDoorChs11
namespace Go.Proofs.YtkcbmkedhipgeaaGreatDoor
open Go.RowKit Go.ChangeMaps

set_option maxRecDepth 100000 in
set_option maxHeartbeats 3000000 in
theorem quorumMinority_any (nd : Nat) (hnd : nd < 256) (x : ByteArray) (L : Nat) (hLo : L < 18446744073709551616) (A : Option Addr) (n c : Nat) (st : Nat → Stp) (w : World) (hT : Tab w) (hE : ErrType w) (hS : SIn w A n st) (hn : n ≤ 9223372036854775807) :
    Calls Tryz.prog 6 #[.slice A n c, .int .u8 (nd : Int), .string x, .int .u64 (L : Int)] w fun e w' => e = .returned (.bool true) ∧ Below w.heap.size w w' := by
  have HH := Lib.hid (heavy_any (c := c) hS hn)
  have HSh := Lib.hid (fun (W : World) => shown_any W)
  have HT := Lib.hid hT
  have HE := Lib.hid hE
  have HB := Lib.hid hS
  clear hT hE hS
  go_enter Tryz.func6, Tryz.ntmps6
  go_wp2_with fail
  go_at_call 9
  refine HH.out.mono ?_
  rintro e w0 ⟨hv, rfl, rfl, hno⟩
  clear HH
  cases hv with
  | true =>
    clear hno
    go_wp2_with (go_at_call 10; refine (HSh.out _).mono ?_; rintro e w' ⟨rfl, hb⟩; have HBs := Lib.hid hb; clear hb)
    go_ret
    exact ⟨rfl, HBs.out⟩
  | false =>
    have hn80 := hno rfl
    clear hno
    by_cases hxs : 256 < x.size
    · have hxI : (256 : Int) < (x.size : Int) := by omega
      go_wp2_with (go_at_call 10; refine (HSh.out _).mono ?_; rintro e w' ⟨rfl, hb⟩; have HBs := Lib.hid hb; clear hb)
      go_ret
      exact ⟨rfl, HBs.out⟩
    by_cases hn4 : 40 < n
    · have hxI : ¬ (256 : Int) < (x.size : Int) := by omega
      have hnI : (40 : Int) < (n : Int) := by omega
      go_wp2_with (go_at_call 10; refine (HSh.out _).mono ?_; rintro e w' ⟨rfl, hb⟩; have HBs := Lib.hid hb; clear hb)
      go_ret
      exact ⟨rfl, HBs.out⟩
    have hxI : ¬ (256 : Int) < (x.size : Int) := by omega
    have hnI : ¬ (40 : Int) < (n : Int) := by omega
    obtain ⟨q, hq⟩ : ∃ q : Nat, q = 5 := ⟨_, rfl⟩
    have hq1 : min (max (5 : Int) 1) 5 = (q : Int) := by omega
    have hq2 : max 1 (min (5 : Int) 5) = (q : Int) := by omega
    have hq0 : 0 < q := by omega
    have hq5 : q ≤ 5 := by omega

    go_wp2_with fail
    go_at_call 10
    refine (HSh.out _).mono ?_
    rintro e w1 ⟨rfl, hb1⟩
    have HB1 := Lib.hid hb1
    clear hb1 HSh
    go_wp2_with fail
    go_at_call 11
    refine (new11_any 5 q w1 hq1 hq0 hq5).mono ?_
    rintro e w2 ⟨g, P0, rfl, hp, hPB, hb2⟩
    have HP := Lib.hid hp
    have HPB := Lib.hid hPB
    have HB2 := Lib.hid hb2
    clear hp hPB hb2
    go_wp2_with fail
    go_at_call 12
    refine (rnew11_any 5 q w2 hq2 hq0 hq5).mono ?_
    rintro e w3 ⟨r, Q0, rfl, hr, hQB, hb3⟩
    have H3 := Lib.hid (BB.start HB1.out HP.out HPB.out HB2.out hr hQB hb3)
    clear hr hQB hb3 HP HPB HB1 HB2
    go_wp2_with fail
    go_loopw [11] (fun iv wr => ∃ (i : Nat) (S : Gp) (P : Pl) (Q : Ql), i ≤ n ∧ iv = .int .i64 i ∧ S.n = q ∧ LV S i ∧ BB w wr g r S S P Q) (fun iv _ => n - (RowKit.intOf iv).toNat)
    case atStart => exact ⟨0, _, P0, Q0, Nat.zero_le _, rfl, rfl, LV.start q hq0 hq5, H3.out⟩
    case round =>
      obtain ⟨i, S, P, Q, hi, rfl, hSn, hL, hbb⟩ := hrel
      have HL := Lib.hid hL
      have HBB := Lib.hid hbb
      clear hL hbb H3
      by_cases hlt : i < n
      · obtain ⟨ga, off, rfl, hc⟩ := HB.out.cells HBB.out.un hlt
        obtain ⟨o, ho⟩ : ∃ o, st i = o := ⟨_, rfl⟩
        rw [ho] at hc
        obtain ⟨q0, q1, q2, q3, q4, q5⟩ := hc
        have hlI : (i : Int) < (n : Int) := by omega
        have hiI : (0 : Int) ≤ (i : Int) := by omega
        have HD := Lib.hid (does_any HBB.out HL.out (by omega) HT.out HE.out o q5)
        have HL2 := Lib.hid (HL.out.does o)
        have hn2 := (do_n HL.out o).trans hSn
        clear ho
        go_wp2_with fail
        go_at_call 14
        refine HD.out.mono ?_
        rintro e w4 ⟨P', Q', rfl, h4, x4⟩
        have H4 := Lib.hid h4
        clear HD h4 x4 HBB HL q0 q1 q2 q3 q4
        go_wp2
        go_roundw
        case rel => exact ⟨i + 1, _, P', Q', by omega, by go_num, hn2, HL2.out, H4.out⟩
        case measure => simp only [RowKit.intOf]; omega
      · have hlI : ¬ ((i : Int) < (n : Int)) := by omega
        obtain rfl : i = n := by omega
        obtain rfl : q = 5 := hq
        obtain ⟨k, hk⟩ : ∃ k, nd % 5 = k := ⟨_, rfl⟩
        have hk5 : k < 5 := by omega
        have hkm : (nd : Int).tmod 5 = (k : Int) := by rw [← hk]; exact (Int.ofNat_tmod nd 5).symm
        have hndI : (nd : Int) < 256 := by omega
        have hnd0 : 0 ≤ (nd : Int) := by omega
        clear hk
        go_wp2_with fail
        go_loopw [13] (fun iv wx => ∃ (i2 : Nat) (P2 : Pl), i2 ≤ 5 ∧ iv = .int .i64 i2 ∧ BB w wx g r (setsF S (fewF k) i2) S P2 Q) (fun iv _ => 5 - (RowKit.intOf iv).toNat)
        case atStart => exact ⟨0, P, by omega, rfl, HBB.out⟩
        case round =>
          obtain ⟨i2, P2, hi2, rfl, hb2⟩ := hrel
          have HB2 := Lib.hid hb2
          clear hb2 HBB
          by_cases hlt2 : i2 < 5
          · have hltI : (i2 : Int) < 5 := by omega
            by_cases hd : ((i2 : Int) + 5 - (k : Int)) % 5 > 1
            · have hd' : 1 < ((i2 : Int) + 5 - (k : Int)) % 5 := hd
              have HD := Lib.hid (bb_down HB2.out HT.out i2)
              have HS := Lib.hid (show setsF S (fewF k) (i2 + 1) = setS (setsF S (fewF k) i2) i2 false from congrArg (setS _ _) (decide_eq_false (by omega)))
              go_wp2_with fail
              go_at_call 23
              refine HD.out.mono ?_
              rintro e w4 ⟨P3, rfl, h4, -⟩
              have H4 := Lib.hid h4
              clear h4 HD
              go_wp2
              go_roundw
              case rel => exact ⟨i2 + 1, P3, by omega, by go_num, by rw [HS.out]; exact H4.out⟩
              case measure => simp only [RowKit.intOf]; omega
            · have hd' : ¬ 1 < ((i2 : Int) + 5 - (k : Int)) % 5 := hd
              have HD := Lib.hid (bb_up HB2.out HT.out HE.out i2)
              have HS := Lib.hid (show setsF S (fewF k) (i2 + 1) = setS (setsF S (fewF k) i2) i2 true from congrArg (setS _ _) (decide_eq_true (by omega)))
              go_wp2_with fail
              go_at_call 20
              refine HD.out.mono ?_
              rintro e w4 ⟨P3, rfl, h4, -⟩
              have H4 := Lib.hid h4
              clear h4 HD
              go_wp2
              go_roundw
              case rel => exact ⟨i2 + 1, P3, by omega, by go_num, by rw [HS.out]; exact H4.out⟩
              case measure => simp only [RowKit.intOf]; omega
          · have hltI : ¬ (i2 : Int) < 5 := by omega
            obtain rfl : i2 = 5 := by omega
            have hL1 := HL.out.setsF (fewF k) 5
            have hn1 : (setsF S (fewF k) 5).n = 5 := (setsF_n S (fewF k) 5).trans hSn
            have hu : ((setsF S (fewF k) 5).nd k).up = true := by rw [setsF_up 5 (by omega) k hk5]; exact few_self k
            have hM : 2 * (cntP (setsF S (fewF k) 5).n fun j => ((setsF S (fewF k) 5).nd j).up) ≤ (setsF S (fewF k) 5).n := by
              rw [hn1, cntP_eq (q := fun j => fewF k j) (fun j hj => setsF_up 5 (by omega) j hj)]
              have := few_cnt k hk5
              omega
            generalize setsF S (fewF k) 5 = S1 at HB2 hL1 hn1 hu hM
            have hk1 : k < S1.n := by omega
            obtain ⟨pe, plog, pcho⟩ := pro_few hL1 (by omega) hk1 hu (show x.size ≤ 1024 by omega) L hM
            have hln := pro_n hL1 k x L
            have hL2 := hL1.pro k x L
            have HL1 := Lib.hid hL1
            have HL2 := Lib.hid hL2
            have hl1 := logOf_len hL1 k
            have hlog2 : logOf (proS S1 k x L) k = logOf S1 k := by rw [logOf_at hk1, logOf_at (by rw [hln]; exact hk1), plog]
            have HG := Lib.hid (bb_log HB2.out hL1 (by omega) k)
            clear hL1 hL2 plog HB2
            go_wp2_with fail
            go_at_call 16
            refine HG.out.mono ?_
            rintro e w4 ⟨v1, rfl, o1, f1, h4, -⟩
            obtain ⟨l1, e1⟩ : ∃ l, logOf S1 k = l := ⟨_, rfl⟩
            rw [e1] at o1 hl1 hlog2
            obtain ⟨A1, c1, rfl, -⟩ := o1.form
            have O1 := Lib.hid o1
            have F1 := Lib.hid f1
            have hl4 : ¬ (4096 : Int) ≤ (l1.length : Int) := by omega
            have hi64 : i64 (l1.length : Int) := (i64_iff _).2 (by omega)
            have HC := Lib.hid (bb_cho h4 HL1.out (l1.length : Int) hi64)
            obtain ⟨⟨cs, cb⟩, hcx⟩ : ∃ z, choOf S1 (l1.length : Int) = z := ⟨_, rfl⟩
            have hcx2 := (pcho (l1.length : Int)).trans hcx
            rw [hcx] at HC
            clear HG h4 o1 f1 e1 hcx pcho
            go_wp2_with fail
            go_at_call 18
            refine HC.out.mono ?_
            rintro e w5 ⟨rfl, h5, b5⟩
            have O1' := Lib.hid (OwnsS.below b5 O1.out)
            have HP := Lib.hid (bb_pro h5 HL1.out k x L hLo)
            rw [pe] at HP
            clear HC h5 b5 O1
            go_wp2_with fail
            go_at_call 21
            refine HP.out.mono ?_
            rintro e w6 ⟨P4, rfl, h6, x6⟩
            obtain ⟨t1, -⟩ := x6.texts O1'.out F1.out
            have T1 := Lib.hid t1
            have HC := Lib.hid (bb_cho h6 HL2.out (l1.length : Int) hi64)
            rw [hcx2] at HC
            clear HP h6 x6 t1 O1' F1
            go_wp2_with fail
            go_at_call 18
            refine HC.out.mono ?_
            rintro e w7 ⟨rfl, h7, b7⟩
            have T2 := Lib.hid (OwnsS.below b7 T1.out)
            have HG := Lib.hid (bb_log h7 HL2.out (by omega) k)
            rw [hlog2] at HG
            clear HC h7 b7 T1
            go_wp2_with fail
            go_at_call 16
            refine HG.out.mono ?_
            rintro e w8 ⟨v3, rfl, o3, -, h8, b8⟩
            have HQ := Lib.hid (same11_yes o3.sh (OwnsS.below b8 T2.out).sh (by omega))
            have hb8 := Lib.hid h8.un
            clear HG h8 b8 o3 T2
            go_wp2_with fail
            go_at_call 15
            refine HQ.out.mono ?_
            rintro e w9 ⟨rfl, b9⟩
            have B9 := Lib.hid (hb8.out.trans (b9.mono hb8.out.size))
            clear HQ b9 hb8
            go_wp2
            go_ret
            exact ⟨rfl, B9.out⟩
end Go.Proofs.YtkcbmkedhipgeaaGreatDoor
