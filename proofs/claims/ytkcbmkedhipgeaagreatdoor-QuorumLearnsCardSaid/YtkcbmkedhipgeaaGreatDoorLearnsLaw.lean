/-
  QuorumLearns (weirkeeplaw11), walked.
-/
import Derived.Test.YtkcbmkedhipgeaaGreatDoorChs11
import Derived.Test.YtkcbmkedhipgeaaGreatDoorSame11
namespace Go.Proofs.YtkcbmkedhipgeaaGreatDoor
open Go.RowKit Go.ChangeMaps

set_option maxRecDepth 100000 in
set_option maxHeartbeats 3000000 in
theorem quorumLearns_any (n0 a b : Int) (A : Option Addr) (n c : Nat) (st : Nat → Stp) (w : World) (hT : Tab w) (hE : ErrType w) (hS : SIn w A n st) (hn : n ≤ 9223372036854775807) :
    Calls Tryz.prog 7 #[.int .i64 n0, .slice A n c, .int .i64 a, .int .i64 b] w fun e w' => e = .returned (.bool true) ∧ Below w.heap.size w w' := by
  have HH := Lib.hid (heavy_any (c := c) hS hn)
  have HSh := Lib.hid (fun (W : World) => shown_any W)
  have HT := Lib.hid hT
  have HE := Lib.hid hE
  have HB := Lib.hid hS
  clear hT hE hS
  go_enter Tryz.func7, Tryz.ntmps7
  go_wp2_with fail
  go_at_call 9
  refine HH.out.mono ?_
  rintro e w0 ⟨hv, rfl, rfl, hno⟩
  clear HH
  cases hv with
  | true =>
    clear hno
    go_wp2_with (go_at_call 10; refine (HSh.out _).mono ?_; rintro e w' ⟨rfl, hb⟩; have HBs := Lib.hid hb; clear hb)
    go_ret
    exact ⟨rfl, HBs.out⟩
  | false =>
    have hn80 := hno rfl
    clear hno
    obtain ⟨q, hq1⟩ : ∃ q : Nat, min (max n0 1) 5 = (q : Int) := ⟨(min (max n0 1) 5).toNat, by omega⟩
    have hq2 : max 1 (min n0 5) = (q : Int) := by omega
    have hq0 : 0 < q := by omega
    have hq5 : q ≤ 5 := by omega

    go_wp2_with fail
    go_at_call 10
    refine (HSh.out _).mono ?_
    rintro e w1 ⟨rfl, hb1⟩
    have HB1 := Lib.hid hb1
    clear hb1 HSh
    go_wp2_with fail
    go_at_call 11
    refine (new11_any n0 q w1 hq1 hq0 hq5).mono ?_
    rintro e w2 ⟨g, P0, rfl, hp, hPB, hb2⟩
    have HP := Lib.hid hp
    have HPB := Lib.hid hPB
    have HB2 := Lib.hid hb2
    clear hp hPB hb2
    go_wp2_with fail
    go_at_call 12
    refine (rnew11_any n0 q w2 hq2 hq0 hq5).mono ?_
    rintro e w3 ⟨r, Q0, rfl, hr, hQB, hb3⟩
    have H3 := Lib.hid (BB.start HB1.out HP.out HPB.out HB2.out hr hQB hb3)
    clear hr hQB hb3 HP HPB HB1 HB2
    go_wp2_with fail
    go_loopw [11] (fun iv wr => ∃ (i : Nat) (S : Gp) (P : Pl) (Q : Ql), i ≤ n ∧ iv = .int .i64 i ∧ S.n = q ∧ LV S i ∧ BB w wr g r S S P Q) (fun iv _ => n - (RowKit.intOf iv).toNat)
    case atStart => exact ⟨0, _, P0, Q0, Nat.zero_le _, rfl, rfl, LV.start q hq0 hq5, H3.out⟩
    case round =>
      obtain ⟨i, S, P, Q, hi, rfl, hSn, hL, hbb⟩ := hrel
      have HL := Lib.hid hL
      have HBB := Lib.hid hbb
      clear hL hbb H3
      by_cases hlt : i < n
      · obtain ⟨ga, off, rfl, hc⟩ := HB.out.cells HBB.out.un hlt
        obtain ⟨o, ho⟩ : ∃ o, st i = o := ⟨_, rfl⟩
        rw [ho] at hc
        obtain ⟨q0, q1, q2, q3, q4, q5⟩ := hc
        have hlI : (i : Int) < (n : Int) := by omega
        have hiI : (0 : Int) ≤ (i : Int) := by omega
        have HD := Lib.hid (does_any HBB.out HL.out (by omega) HT.out HE.out o q5)
        have HL2 := Lib.hid (HL.out.does o)
        have hn2 := (do_n HL.out o).trans hSn
        clear ho
        go_wp2_with fail
        go_at_call 14
        refine HD.out.mono ?_
        rintro e w4 ⟨P', Q', rfl, h4, x4⟩
        have H4 := Lib.hid h4
        clear HD h4 x4 HBB HL q0 q1 q2 q3 q4
        go_wp2
        go_roundw
        case rel => exact ⟨i + 1, _, P', Q', by omega, by go_num, hn2, HL2.out, H4.out⟩
        case measure => simp only [RowKit.intOf]; omega
      · have hlI : ¬ ((i : Int) < (n : Int)) := by omega
        obtain rfl : i = n := by omega
        have HL1 := Lib.hid (bb_log HBB.out HL.out (by omega) a)
        go_wp2_with fail
        go_at_call 16
        refine HL1.out.mono ?_
        rintro e w4 ⟨v1, rfl, o1, f1, h4, -⟩
        have HL2 := Lib.hid (bb_log h4 HL.out (by omega) b)
        have O1 := Lib.hid o1
        have F1 := Lib.hid f1
        clear HL1 HBB h4 o1 f1
        go_wp2_with fail
        go_at_call 16
        refine HL2.out.mono ?_
        rintro e w5 ⟨v2, rfl, o2, f2, h5, b5⟩
        have O1' := Lib.hid (OwnsS.below b5 O1.out)
        have HLe := Lib.hid (bb_lea h5 HL.out (by omega) a b)
        have O2 := Lib.hid o2
        have F2 := Lib.hid f2
        clear HL2 h5 o2 f2 O1 b5
        go_wp2_with fail
        go_at_call 22
        refine HLe.out.mono ?_
        rintro e w6 ⟨P', rfl, h6, x6⟩
        obtain ⟨t1, -⟩ := x6.texts O1'.out F1.out
        obtain ⟨t2, -⟩ := x6.texts O2.out F2.out
        have HL3 := Lib.hid (bb_log h6 (HL.out.lea a b) (by omega) a)
        have T1 := Lib.hid t1
        have T2 := Lib.hid t2
        clear HLe h6 x6 t1 t2 O1' O2 F1 F2
        have hl1 := logOf_len HL.out a
        have hl2 := logOf_len HL.out b
        have HF := Lib.hid (lea_facts HL.out.inv a b)
        obtain ⟨l1, e1⟩ : ∃ l, logOf S a = l := ⟨_, rfl⟩
        obtain ⟨l2, e2⟩ : ∃ l, logOf S b = l := ⟨_, rfl⟩
        obtain ⟨l3, e3⟩ : ∃ l, logOf (leaS S a b) a = l := ⟨_, rfl⟩
        obtain ⟨⟨K, E⟩, e4⟩ : ∃ x, leaE S a b = x := ⟨_, rfl⟩
        rw [e1] at hl1 T1 HF
        rw [e2] at hl2 T2 HF
        rw [e3] at HL3 HF
        rw [e4] at HF ⊢
        clear e1 e2 e3 e4
        go_wp2_with fail
        go_at_call 16
        refine HL3.out.mono ?_
        rintro e w7 ⟨v3, rfl, o3, -, h7, b7⟩
        have U1 := OwnsS.below b7 T1.out
        have U2 := OwnsS.below b7 T2.out
        have hb7 := Lib.hid h7.un
        obtain ⟨A1, c1, rfl, -⟩ := U1.form
        obtain ⟨A2, c2, rfl, -⟩ := U2.form
        obtain ⟨A3, c3, rfl, -⟩ := o3.form
        have S1 := Lib.hid U1.sh
        have S2 := Lib.hid U2.sh
        have S3 := Lib.hid o3.sh
        have k1 : l1.length ≤ c1 := U1.cap
        have k3 : l3.length ≤ c3 := o3.cap
        clear HL3 h7 b7 U1 U2 o3 T1 T2
        rcases HF.out with ⟨f1, f2, f3⟩ | ⟨f1, ⟨f2, f3, f4, f5⟩ | ⟨f2, f3, f4, f5⟩⟩
        · have f1' : E ≠ 0 := f1
          obtain rfl : K = 0 := f2
          obtain rfl := f3
          have HQ := Lib.hid (same11_yes S3.out S1.out (by omega))
          clear HF f1
          go_wp2_with (go_at_call 15; (with_reducible refine HQ.out.mono ?_); rintro e w8 ⟨rfl, b8⟩; have B8 := Lib.hid b8; clear b8)
          go_ret
          exact ⟨rfl, hb7.out.trans (B8.out.mono hb7.out.size)⟩
        · obtain rfl : E = 0 := f1
          obtain rfl : K = (l2.length : Int) - (l1.length : Int) := f3
          obtain rfl := f4
          have f2I : (l1.length : Int) < (l3.length : Int) := by omega
          have HQ := Lib.hid (same11_yes S3.out S2.out (by omega))
          have ST := Lib.hid (S3.out.take l1.length (by omega))
          rw [f5] at ST
          clear HF
          go_wp2_with fail
          go_at_call 15
          refine HQ.out.mono ?_
          rintro e w8 ⟨rfl, b8⟩
          have B8 := Lib.hid (hb7.out.trans (b8.mono hb7.out.size))
          have HQ2 := Lib.hid (same11_yes (ST.out.below b8) (S1.out.below b8) (by omega))
          clear HQ b8 hb7
          go_wp2_with fail
          go_at_call 15
          refine HQ2.out.mono ?_
          rintro e w9 ⟨rfl, b9⟩
          have B9 := Lib.hid (B8.out.trans (b9.mono B8.out.size))
          clear HQ2 b9 B8
          go_wp2
          go_ret
          exact ⟨rfl, B9.out⟩
        · obtain rfl : E = 0 := f1
          obtain rfl : K = 0 := f3
          obtain rfl := f4
          have f2I : ¬ (l3.length : Int) < (l2.length : Int) := by omega
          have f6I : (l2.length : Int) ≤ (l3.length : Int) := by omega
          have HQ := Lib.hid (same11_yes S3.out S1.out (by omega))
          have ST := Lib.hid (S1.out.take l2.length (by omega))
          rw [f5] at ST
          clear HF
          go_wp2_with fail
          go_at_call 15
          refine HQ.out.mono ?_
          rintro e w8 ⟨rfl, b8⟩
          have B8 := Lib.hid (hb7.out.trans (b8.mono hb7.out.size))
          have HQ2 := Lib.hid (same11_yes (ST.out.below b8) (S2.out.below b8) (by omega))
          clear HQ b8 hb7
          go_wp2_with fail
          go_at_call 15
          refine HQ2.out.mono ?_
          rintro e w9 ⟨rfl, b9⟩
          have B9 := Lib.hid (B8.out.trans (b9.mono B8.out.size))
          clear HQ2 b9 B8
          go_wp2
          go_ret
          exact ⟨rfl, B9.out⟩
end Go.Proofs.YtkcbmkedhipgeaaGreatDoor
