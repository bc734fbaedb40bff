/-
  QuorumScript (weirkeeplaw11), walked.
-/
import Derived.Test.YtkcbmkedhipgeaaGreatDoorChs11
namespace Go.Proofs.YtkcbmkedhipgeaaGreatDoor
open Go.RowKit Go.ChangeMaps

set_option maxRecDepth 100000 in
set_option maxHeartbeats 3000000 in
theorem quorumScript_any (n0 : Int) (A : Option Addr) (n c : Nat) (st : Nat → Stp) (w : World) (hT : Tab w) (hE : ErrType w) (hS : SIn w A n st) (hn : n ≤ 9223372036854775807) :
    Calls Tryz.prog 3 #[.int .i64 n0, .slice A n c] w fun e w' => e = .returned (.bool true) ∧ Below w.heap.size w w' := by
  have HH := Lib.hid (heavy_any (c := c) hS hn)
  have HSh := Lib.hid (fun (W : World) => shown_any W)
  have HT := Lib.hid hT
  have HE := Lib.hid hE
  have HB := Lib.hid hS
  clear hT hE hS
  go_enter Tryz.func3, Tryz.ntmps3
  go_wp2_with fail
  go_at_call 9
  refine HH.out.mono ?_
  rintro e w0 ⟨hv, rfl, rfl, hno⟩
  clear HH
  cases hv with
  | true =>
    clear hno
    go_wp2_with (go_at_call 10; refine (HSh.out _).mono ?_; rintro e w' ⟨rfl, hb⟩; have HBs := Lib.hid hb; clear hb)
    go_ret
    exact ⟨rfl, HBs.out⟩
  | false =>
    have hn80 := hno rfl
    clear hno
    obtain ⟨q, hq1⟩ : ∃ q : Nat, min (max n0 1) 5 = (q : Int) := ⟨(min (max n0 1) 5).toNat, by omega⟩
    have hq2 : max 1 (min n0 5) = (q : Int) := by omega
    have hq0 : 0 < q := by omega
    have hq5 : q ≤ 5 := by omega

    go_wp2_with fail
    go_at_call 10
    refine (HSh.out _).mono ?_
    rintro e w1 ⟨rfl, hb1⟩
    have HB1 := Lib.hid hb1
    clear hb1 HSh
    go_wp2_with fail
    go_at_call 11
    refine (new11_any n0 q w1 hq1 hq0 hq5).mono ?_
    rintro e w2 ⟨g, P0, rfl, hp, hPB, hb2⟩
    have HP := Lib.hid hp
    have HPB := Lib.hid hPB
    have HB2 := Lib.hid hb2
    clear hp hPB hb2
    go_wp2_with fail
    go_at_call 12
    refine (rnew11_any n0 q w2 hq2 hq0 hq5).mono ?_
    rintro e w3 ⟨r, Q0, rfl, hr, hQB, hb3⟩
    have H3 := Lib.hid (BB.start HB1.out HP.out HPB.out HB2.out hr hQB hb3)
    clear hr hQB hb3 HP HPB HB1 HB2
    have p0 := H3.out.rg.c0
    rw [show (Gp.start q).n = q from rfl] at p0
    have bd3 : Below w3.heap.size w3 w3.drew := (Below.refl _ _).drew
    obtain ⟨h3d, -⟩ := H3.out.below bd3
    have p1 := h3d.rg.c0
    rw [show (Gp.start q).n = q from rfl] at p1
    have hlen := len_any h3d.pg
    rw [show (Gp.start q).n = q from rfl] at hlen
    have HLen := Lib.hid hlen
    have H3 := Lib.hid h3d
    clear hlen bd3 h3d
    go_wp2_with fail
    go_region_held3 (fun w' => w'.cell? ⟨r, 0, none⟩ = some (.slice (some ⟨Q0.nb, 0, none⟩) q Q0.cap))
      (first | exact p1 | fail)
      (first
        | (go_at_call 13; (with_reducible refine HLen.out.mono ?_); rintro e w4 ⟨rfl, rfl⟩)
        | fail)
    clear HLen p0 p1
    go_wp2_with fail
    go_loopw [7] (fun iv wr => ∃ (i : Nat) (S : Gp) (P : Pl) (Q : Ql), i ≤ n ∧ iv = .int .i64 i ∧ S.n = q ∧ LV S i ∧ BB w wr g r S S P Q) (fun iv _ => n - (RowKit.intOf iv).toNat)
    case atStart => exact ⟨0, _, P0, Q0, Nat.zero_le _, rfl, rfl, LV.start q hq0 hq5, H3.out⟩
    case round =>
      obtain ⟨i, S, P, Q, hi, rfl, hSn, hL, hbb⟩ := hrel
      have HL := Lib.hid hL
      have HBB := Lib.hid hbb
      clear hL hbb H3
      by_cases hlt : i < n
      · as_aux_lemma =>
          obtain ⟨o, ho⟩ : ∃ o, st i = o := ⟨_, rfl⟩
          obtain ⟨ga, off, rfl, hga, hc0⟩ := HB.out i hlt
          rw [ho] at hc0
          have ho5 := hc0.2.2.2.2.2
          have HHc := Lib.hid (show ∀ W, Below w.heap.size w W → W.cell? ⟨ga, off + i * 5, none⟩ = some (.int .i64 o.kind) ∧ W.cell? ⟨ga, off + i * 5 + 1, none⟩ = some (.int .i64 o.i) ∧ W.cell? ⟨ga, off + i * 5 + 2, none⟩ = some (.int .i64 o.j) ∧ W.cell? ⟨ga, off + i * 5 + 3, none⟩ = some (.string o.x) ∧ W.cell? ⟨ga, off + i * 5 + 4, none⟩ = some (.int .u64 (o.L : Int)) from fun W hb => by
            obtain ⟨a0, a1, a2, a3, a4, -⟩ := hc0.below hb hga
            exact ⟨a0, a1, a2, a3, a4⟩)
          have hlI : (i : Int) < (n : Int) := by omega
          have hiI : (0 : Int) ≤ (i : Int) := by omega
          have bd : Below wr.heap.size wr wr.drew := (Below.refl _ _).drew
          obtain ⟨hd, -⟩ := HBB.out.below bd
          have B0 := Lib.hid hd.un
          have HD := Lib.hid (does_any hd HL.out (by omega) HT.out HE.out o ho5)
          have HL2 := Lib.hid (HL.out.does o)
          have hn2 := (do_n HL.out o).trans hSn
          have hll := logOf_len HL2.out o.i
          clear ho hc0 bd hd HBB HL ho5 HB
          generalize doS S o = S2 at HD HL2 hn2 hll
          go_wp2_with fail
          go_region_held3 (fun w' => w'.cell? ⟨ga, off + i * 5, none⟩ = some (.int .i64 o.kind) ∧ w'.cell? ⟨ga, off + i * 5 + 1, none⟩ = some (.int .i64 o.i) ∧ w'.cell? ⟨ga, off + i * 5 + 2, none⟩ = some (.int .i64 o.j) ∧ w'.cell? ⟨ga, off + i * 5 + 3, none⟩ = some (.string o.x) ∧ w'.cell? ⟨ga, off + i * 5 + 4, none⟩ = some (.int .u64 (o.L : Int)))
            (first | exact HHc.out _ B3.out | exact HHc.out _ B2.out | exact HHc.out _ B1.out | exact HHc.out _ B0.out | fail)
            (first
              | (go_at_call 14; (with_reducible refine HD.out.mono ?_); rintro e w4 ⟨P', Q', rfl, h4, -⟩; have B1 := Lib.hid h4.un; have HG := Lib.hid (bb_log h4 HL2.out (by omega) o.i); clear h4)
              | (go_at_call 16; (with_reducible refine HG.out.mono ?_); rintro e w5 ⟨v1, rfl, o1, -, h5, -⟩; have B2 := Lib.hid h5.un; have HRl := Lib.hid (rlog_any h5.rg o.i); have HQ := Lib.hid (same11_yes o1.sh (rlogV_owns h5.rg o.i).sh (by omega)); have H5 := Lib.hid h5; clear o1 h5)
              | (go_at_call 17; (with_reducible refine HRl.out.mono ?_); rintro e w6 ⟨rfl, rfl⟩)
              | (go_at_call 15; (with_reducible refine HQ.out.mono ?_); rintro e w7 ⟨rfl, b7⟩; have H7 := Lib.hid (H5.out.below b7).1; have B3 := Lib.hid H7.out.un; clear b7)
              | fail)
          clear HHc
          go_wp2
          go_roundw
          case rel => exact ⟨i + 1, S2, P', Q', by omega, by go_num, hn2, HL2.out, H7.out⟩
          case measure => simp only [RowKit.intOf]; omega
      · have hlI : ¬ ((i : Int) < (n : Int)) := by omega
        obtain rfl : i = n := by omega
        go_wp2_with fail
        go_loopw [8] (fun kv wx => ∃ kk : Int, -1 ≤ kk ∧ kk ≤ 11 ∧ kv = .int .i64 kk ∧ BB w wx g r S S P Q) (fun kv _ => (11 - RowKit.intOf kv).toNat)
        case atStart => exact ⟨-1, by omega, by omega, rfl, HBB.out⟩
        case round =>
          obtain ⟨kk, hk0, hk1, rfl, hb2⟩ := hrel
          have HB2 := Lib.hid hb2
          clear hb2 HBB
          by_cases hk : kk ≤ 10
          · have HC := Lib.hid (bb_cho HB2.out HL.out kk ((i64_iff _).2 (by omega)))
            obtain ⟨⟨cx, cb⟩, hcx⟩ : ∃ z, choOf S kk = z := ⟨_, rfl⟩
            rw [hcx] at HC
            have HCx := Lib.hid hcx
            clear HB2 hcx
            go_wp2_with fail
            go_at_call 18
            refine HC.out.mono ?_
            rintro e w4 ⟨rfl, h4, -⟩
            have HR := Lib.hid (bb_rcho h4 HL.out (by omega) kk)
            rw [HCx.out] at HR
            clear HC h4
            go_wp2_with fail
            go_at_call 19
            refine HR.out.mono ?_
            rintro e w5 ⟨rfl, h5, -⟩
            have H5 := Lib.hid h5
            clear HR h5
            go_wp2
            go_roundw
            case rel => exact ⟨kk + 1, by omega, by omega, by go_num, H5.out⟩
            case measure => simp only [RowKit.intOf]; omega
          · have hkI : ¬ kk ≤ 10 := hk
            go_wp2
            go_ret
            exact ⟨rfl, HB2.out.un⟩
end Go.Proofs.YtkcbmkedhipgeaaGreatDoor
