/-
  Put of the document's own shelf (weirkeepref09), by a contract.
-/
import Derived.Test.YtmmpknfkncgjpaaGreatDoorM35
import Derived.BigQuiet
namespace Go.Proofs.YtmmpknfkncgjpaaGreatDoor
open Go.RowKit

theorem pre_bad {L : Lay} {s : St} {b : Bk} (h : refE b 1 ≠ 0) : putE L s b = refE b 1 ∧ putS L s b = s ∧ putY L s b = L := by
  have : preE L s.gone b = refE b 1 := if_pos h
  have := putS_pre (L := L) (s := s) (b := b) (by rw [this]; exact h)
  rwa [‹preE L s.gone b = refE b 1›] at this
theorem pre_dead {L : Lay} {s : St} {b : Bk} (h : refE b 1 = 0) (hg : s.gone = true) : putE L s b = 70 ∧ putS L s b = s ∧ putY L s b = L := by
  have e : preE L s.gone b = 70 := by unfold preE; rw [if_neg (by omega), hg, if_pos rfl]
  have := putS_pre (L := L) (s := s) (b := b) (by rw [e]; decide)
  rwa [e] at this
theorem pre_old {L : Lay} {s : St} {b : Bk} (h : refE b 1 = 0) (hg : s.gone = false) (hn : newer L b = false) : putE L s b = 5 ∧ putS L s b = s ∧ putY L s b = L := by
  have e : preE L s.gone b = 5 := by unfold preE; rw [if_neg (by omega), hg, if_neg (by simp), if_pos hn]
  have := putS_pre (L := L) (s := s) (b := b) (by rw [e]; decide)
  rwa [e] at this
theorem pre_full {L : Lay} {s : St} {b : Bk} (h : refE b 1 = 0) (hg : s.gone = false) (hn : newer L b = true) (hl : low L = L.length) : putE L s b = 2 ∧ putS L s b = s ∧ putY L s b = L := by
  have e : preE L s.gone b = 2 := by unfold preE; rw [if_neg (by omega), hg, if_neg (by simp), hn, if_neg (by simp), if_pos hl]
  have := putS_pre (L := L) (s := s) (b := b) (by rw [e]; decide)
  rwa [e] at this
theorem pre_go {L : Lay} {s : St} {b : Bk} (h : refE b 1 = 0) (hg : s.gone = false) (hn : newer L b = true) (hl : low L < L.length) : putE L s b = wrE s (low L) b ∧ putS L s b = wrS s (low L) b ∧ (wrE s (low L) b = 0 → putY L s b = layL L (low L) b) ∧ (wrE s (low L) b ≠ 0 → putY L s b = L) := by
  have e : preE L s.gone b = 0 := by unfold preE; rw [if_neg (by omega), hg, if_neg (by simp), hn, if_neg (by simp), if_neg (by omega)]
  obtain ⟨h1, h2, h3⟩ := putS_wr e
  refine ⟨h1, h2, fun h0 => ?_, fun h0 => ?_⟩
  · rw [h3]; unfold wrY layL; rw [if_pos h0, if_pos hn]
  · rw [h3]; unfold wrY; rw [if_neg h0]
set_option maxRecDepth 100000 in
set_option maxHeartbeats 4000000 in
theorem rput_any {F : Nat → Prop} {w : World} {rb rp : Nat} {s : St} {L : Lay} {odd : List Nat} {lost : Bool} {n k : Nat} (h : RSF w rb rp s L odd lost F) (hR : Rest s n k) (hk : k ≤ 900000) (hlost : lost = true → s.gone = true) (hL : L.length = n) (b : Bk) :
    Calls Tryz.prog 73 #[.pointer (some ⟨rb, 0, none⟩), b.val] w fun e w' => e = .returned (.int .i64 (putE L s b)) ∧ RSg F w w' rb rp (putS L s b) (putY L s b) odd (lostP lost (putE L s b)) := by
  have hb0 : Below w.heap.size w (w.alloc (.cells b.cells 34)) := (Below.refl _ _).alloc (Nat.le_refl _) _
  have B0 := Lib.hid hb0
  have HFz := Lib.hid (fun (e : F w.heap.size) => Nat.lt_irrefl _ (h.lt _ e))
  have A0 := Lib.hid (AB.fresh w b)
  have S0 := Lib.hid (RSg.start (h.below hb0))
  have HG := Lib.hid h.good
  have hlo := h.good.hi
  have RA := Lib.hid (fun w => rrec_any b 1 w)
  have HR := Lib.hid hR
  have HLost := Lib.hid hlost
  clear h hb0 hR hlost
  by_cases hre : refE b 1 = 0
  case neg =>
    obtain ⟨e1, e2, e3⟩ := pre_bad (L := L) (s := s) hre
    have hr70 : refE b 1 ≠ 70 := by unfold refE; split; split <;> omega; omega
    have hlp := Lib.hid (show lostP lost (refE b 1) = lost from by unfold lostP; rw [decide_eq_false hr70, Bool.or_false])
    rw [e1, e2, e3, hlp.out]
    obtain ⟨er, her⟩ : ∃ x, refE b 1 = x := ⟨_, rfl⟩
    rw [her] at RA hre ⊢
    have hz : (er == 0) = false := by simpa using hre
    clear e1 e2 e3 her hlp hr70 hre
    obtain ⟨d0, d1, d2⟩ := A0.out.all
    go_enter Tryz.func73, Tryz.ntmps73
    go_wp2_with fail
    generalize w.alloc (.cells #[.int .i64 b.id, .int .i64 b.ver, .string b.data] 34) = w0 at *
    go_at_call 106
    refine (RA.out _).mono ?_
    rintro e w1 ⟨rfl, k2⟩
    have S1 := Lib.hid (S0.out.below k2)
    clear k2
    go_wp2
    go_ret
    exact ⟨rfl, RSg.ahead B0.out S1.out⟩
  case pos =>
  rw [hre, recV_yes hre] at RA
  have HRe := Lib.hid hre
  obtain ⟨pE, hpE⟩ : ∃ x, putE L s b = x := ⟨_, rfl⟩
  obtain ⟨pS, hpS⟩ : ∃ x, putS L s b = x := ⟨_, rfl⟩
  obtain ⟨pY, hpY⟩ : ∃ x, putY L s b = x := ⟨_, rfl⟩
  have P1 := fun hg => pre_dead (L := L) (s := s) hre hg
  have P2 := fun hg hn => pre_old (L := L) (s := s) hre hg hn
  have P3 := fun hg hn hl => pre_full (L := L) (s := s) hre hg hn hl
  have P4 := fun hg hn hl => pre_go (L := L) (s := s) hre hg hn hl
  have P5 := fun (hl : low L < L.length) => HR.out.wr_dead (b := b) (i := low L) (by omega) hre
  rw [hpE, hpS, hpY] at P1 P2 P3 P4
  rw [hpE, hpS, hpY]
  clear hpE hpS hpY hre
  cases hg : s.gone
  case true =>
    obtain ⟨rfl, rfl, rfl⟩ := P1 hg
    have hlp := Lib.hid (show lostP lost 70 = true from by unfold lostP; simp)
    clear P1 P2 P3 P4 P5
    obtain ⟨d0, d1, d2⟩ := A0.out.all
    go_enter Tryz.func73, Tryz.ntmps73
    go_wp2_with fail
    generalize w.alloc (.cells #[.int .i64 b.id, .int .i64 b.ver, .string b.data] 34) = w0 at *
    go_at_call 106
    refine (RA.out _).mono ?_
    rintro e w1 ⟨rfl, k2⟩
    have S1 := Lib.hid (S0.out.below k2)
    clear k2
    obtain ⟨F1, h1⟩ := S1.out.sf
    have c2 := h1.gone
    rw [hg] at c2
    obtain ⟨c0, c3⟩ := h1.c0
    obtain ⟨k1, f3⟩ := S1.out.setLost
    have S2 := Lib.hid k1
    clear k1 h1 hg
    cases lost
    all_goals
      go_wp2
      go_ret
      exact ⟨rfl, by rw [hlp.out]; exact RSg.ahead B0.out S2.out⟩
  case false =>
  obtain rfl : lost = false := by
    cases lost
    · rfl
    · have := HLost.out rfl; rw [hg] at this; cases this
  clear P1 HLost
  have Q2 := Lib.hid (P2 hg)
  have Q3 := Lib.hid (P3 hg)
  have Q4 := Lib.hid (P4 hg)
  have Q5 := Lib.hid P5
  have Hg := Lib.hid hg
  clear P2 P3 P4 P5 hg
  obtain ⟨d0, d1, d2⟩ := A0.out.all
  go_enter Tryz.func73, Tryz.ntmps73
  go_wp2_with fail
  generalize w.alloc (.cells #[.int .i64 b.id, .int .i64 b.ver, .string b.data] 34) = w0 at *
  go_at_call 106
  refine (RA.out _).mono ?_
  rintro e w1 ⟨rfl, k2⟩
  have S1 := Lib.hid (S0.out.below k2)
  have A1 := Lib.hid (A0.out.below k2)
  have B1 := Lib.hid (B0.out.trans (k2.mono B0.out.size))
  clear k2 d0 d1 d2
  obtain ⟨F1, h1⟩ := S1.out.sf
  have c2 := h1.gone
  rw [Hg.out] at c2
  obtain ⟨c0, c3⟩ := h1.c0
  have HA := Lib.hid (rsf_at h1 b.id)
  obtain ⟨g, c1, hsec⟩ := h1.lays
  obtain ⟨d0, d1, d2⟩ := A1.out.all
  clear h1
  rcases at_cases HG.out b.id with ⟨e1, e2⟩ | ⟨k', c, e1, e2, e3, e4⟩
  · rw [e1] at HA
    have hnw : newer L b = true := by unfold newer; rw [e2]
    clear e1 e2 hsec
    go_wp2_with (go_at_call 42; refine HA.out.mono ?_; rintro e w' ⟨rfl, rfl⟩)
    go_quiet (fail)
    have hbq : Below w1.heap.size w1 (w1.drewN nq) := below_drewN (Below.refl _ _) nq
    have S2 := Lib.hid (S1.out.below hbq)
    have A2 := Lib.hid (A1.out.below hbq)
    clear hbq c0 c2 c3 c1 d0 d1 d2 HA S1 A1
    generalize w1.drewN nq = w2 at S2 A2 ⊢
    obtain ⟨F2, h2, k2⟩ := S2.out.go
    obtain ⟨g2, c1, hsec2⟩ := h2.lays
    have HSec := Lib.hid hsec2
    have HP := Lib.hid (fun (hl : low L < L.length) => rput1_any h2 HR.out hk HRe.out (low L))
    have HK := Lib.hid k2
    clear h2 k2 hsec2
    obtain ⟨m, hm⟩ : ∃ m, L.length = m := ⟨_, rfl⟩
    have HM := Lib.hid hm
    rw [hm] at c1
    clear hm
    go_wp2_with fail
    go_loop [8] (fun iv => ∃ i : Nat, i ≤ low L ∧ iv = .int .i64 i) (fun iv => low L + 1 - (RowKit.intOf iv).toNat)
    case atStart => exact ⟨0, Nat.zero_le _, rfl⟩
    case round =>
      obtain ⟨i, hi, rfl⟩ := hrel
      have hi0 : (0 : Int) ≤ (i : Int) := by omega
      by_cases hlt : i < low L
      · obtain ⟨c', hc'⟩ := low_before hlt
        obtain ⟨s0, s1, -⟩ := HSec.out i hc'.lt
        rw [bkA_at hc'] at s1
        have hv : 0 < c'.ver := by have := (refE_zero.1 (HG.out.ok i c' hc')).1; unfold argOk at this; omega
        have him : i < m := by have := hc'.lt; rw [HM.out] at this; exact this
        have hm128 : m ≤ 128 := by rw [← HM.out]; exact HG.out.hi
        have hiI : (i : Int) < (m : Int) := by omega
        clear hc' s0
        go_wp2
        go_round
        case rel => exact ⟨i + 1, by omega, by go_num⟩
        case measure => simp only [RowKit.intOf]; omega
      · obtain rfl : i = low L := by omega
        have hll := low_le L
        by_cases hfull : low L = m
        · obtain ⟨z1, z2, z3⟩ := Q3.out hnw (hfull.trans HM.out.symm)
          have hlp := Lib.hid (show lostP false 2 = false from by decide)
          have hiI : ¬ ((low L : Int) < (m : Int)) := by omega
          have heq : ((low L : Int) == (m : Int)) = true := by simp [hfull]
          clear hfull hll hlt hi
          have HZ1 := Lib.hid z1
          have HZ2 := Lib.hid z2
          have HZ3 := Lib.hid z3
          clear z1 z2 z3 Q3 Q4 HP HSec Q5
          generalize low L = i at *
          go_wp2
          go_ret
          exact ⟨by rw [HZ1.out]; rfl, by rw [HZ1.out, HZ2.out, HZ3.out, hlp.out]; exact RSg.ahead B0.out S2.out⟩
        · have hlm : low L < L.length := by have := HM.out; omega
          obtain ⟨q1, q2, q3, q4⟩ := Q4.out hnw hlm
          obtain ⟨s0, s1, -⟩ := HSec.out _ hlm
          rw [bkA_free (low_free hlm)] at s1
          rw [show Bk.zero.ver = 0 from rfl] at s1
          have hiI : (low L : Int) < (m : Int) := by rw [HM.out] at hlm; omega
          have heq : ((low L : Int) == (m : Int)) = false := by simp; omega
          have HPt := Lib.hid (HP.out hlm)
          have HD := Lib.hid (Q5.out hlm)
          have HLm := Lib.hid hlm
          rw [← q1, ← q2] at HPt
          rw [← q1] at HD q3 q4
          have HQ3 := Lib.hid q3
          have HQ4 := Lib.hid q4
          clear hlm hfull hll hlt hi q1 q2 q3 q4 s0
          obtain ⟨d0, d1, d2⟩ := A2.out.all
          obtain ⟨lw, hlw⟩ : ∃ x, low L = x := ⟨_, rfl⟩
          rw [hlw] at s1 hiI heq HPt HLm HQ3 hi0 ⊢
          clear hlw
          go_wp2_with fail
          go_at_call 107
          refine HPt.out.mono ?_
          rintro e w3 ⟨rfl, k2⟩
          have S3 := Lib.hid (HK.out _ _ _ _ _ k2)
          have A3 := Lib.hid (S3.out.ab A0.out HFz.out)
          clear k2 HPt c1 s1 d0 d1 d2
          by_cases hpe : pE = 0
          · obtain rfl := HQ3.out hpe
            subst hpe
            obtain ⟨d0, d1, d2⟩ := A3.out.all
            have hlp := Lib.hid (show lostP false 0 = false from by decide)
            go_wp2_with fail
            go_at_call 98
            refine (rsg_lay S3.out HLm.out HRe.out).mono ?_
            rintro e w4 ⟨rfl, k2⟩
            have S4 := Lib.hid k2
            clear k2 d0 d1 d2
            go_wp2
            go_ret
            exact ⟨rfl, by rw [hlp.out]; exact RSg.ahead B0.out S4.out⟩
          · obtain rfl := HQ4.out hpe
            obtain ⟨rfl, -⟩ := HD.out hpe
            obtain ⟨k1, f3⟩ := S3.out.setLost
            obtain ⟨-, c3⟩ := S3.out.c0
            have S4 := Lib.hid k1
            have hlp := Lib.hid (show lostP false 70 = true from by decide)
            clear k1 hpe
            go_wp2
            go_ret
            exact ⟨rfl, by rw [hlp.out]; exact RSg.ahead B0.out S4.out⟩
  · rw [e1] at HA
    obtain ⟨s0, s1, -⟩ := hsec k' e2.lt
    rw [bkA_at e2] at s1
    have hkI : (k' : Int) < (L.length : Int) := by have := e2.lt; omega
    have hk0 : (0 : Int) ≤ (k' : Int) := by omega
    have hnv : newer L b = decide (c.ver < b.ver) := by unfold newer; rw [e4]
    by_cases hv : c.ver < b.ver
    · have hnw : newer L b = true := by rw [hnv]; exact decide_eq_true hv
      have hv1 : decide (b.ver ≤ c.ver) = false := decide_eq_false (by omega)
      clear e1 e2 e3 e4 hsec s0 hnv hv
      generalize L.length = m0 at c1 hkI
      go_wp2_with (go_at_call 42; refine HA.out.mono ?_; rintro e w' ⟨rfl, rfl⟩)
      go_quiet (fail)
      clear hkI hk0 s1 hv1
      have hbq : Below w1.heap.size w1 (w1.drewN nq) := below_drewN (Below.refl _ _) nq
      have S2 := Lib.hid (S1.out.below hbq)
      have A2 := Lib.hid (A1.out.below hbq)
      clear hbq c0 c2 c3 c1 d0 d1 d2 HA S1 A1
      generalize w1.drewN nq = w2 at S2 A2 ⊢
      obtain ⟨F2, h2, k2⟩ := S2.out.go
      obtain ⟨g2, c1, hsec2⟩ := h2.lays
      have HSec := Lib.hid hsec2
      have HP := Lib.hid (fun (hl : low L < L.length) => rput1_any h2 HR.out hk HRe.out (low L))
      have HK := Lib.hid k2
      clear h2 k2 hsec2
      obtain ⟨m, hm⟩ : ∃ m, L.length = m := ⟨_, rfl⟩
      have HM := Lib.hid hm
      rw [hm] at c1
      clear hm
      go_wp2_with fail
      go_loop [8] (fun iv => ∃ i : Nat, i ≤ low L ∧ iv = .int .i64 i) (fun iv => low L + 1 - (RowKit.intOf iv).toNat)
      case atStart => exact ⟨0, Nat.zero_le _, rfl⟩
      case round =>
        obtain ⟨i, hi, rfl⟩ := hrel
        have hi0 : (0 : Int) ≤ (i : Int) := by omega
        by_cases hlt : i < low L
        · obtain ⟨c', hc'⟩ := low_before hlt
          obtain ⟨s0, s1, -⟩ := HSec.out i hc'.lt
          rw [bkA_at hc'] at s1
          have hv : 0 < c'.ver := by have := (refE_zero.1 (HG.out.ok i c' hc')).1; unfold argOk at this; omega
          have him : i < m := by have := hc'.lt; rw [HM.out] at this; exact this
          have hm128 : m ≤ 128 := by rw [← HM.out]; exact HG.out.hi
          have hiI : (i : Int) < (m : Int) := by omega
          clear hc' s0
          go_wp2
          go_round
          case rel => exact ⟨i + 1, by omega, by go_num⟩
          case measure => simp only [RowKit.intOf]; omega
        · obtain rfl : i = low L := by omega
          have hll := low_le L
          by_cases hfull : low L = m
          · obtain ⟨z1, z2, z3⟩ := Q3.out hnw (hfull.trans HM.out.symm)
            have hlp := Lib.hid (show lostP false 2 = false from by decide)
            have hiI : ¬ ((low L : Int) < (m : Int)) := by omega
            have heq : ((low L : Int) == (m : Int)) = true := by simp [hfull]
            clear hfull hll hlt hi
            have HZ1 := Lib.hid z1
            have HZ2 := Lib.hid z2
            have HZ3 := Lib.hid z3
            clear z1 z2 z3 Q3 Q4 HP HSec Q5
            generalize low L = i at *
            go_wp2
            go_ret
            exact ⟨by rw [HZ1.out]; rfl, by rw [HZ1.out, HZ2.out, HZ3.out, hlp.out]; exact RSg.ahead B0.out S2.out⟩
          · have hlm : low L < L.length := by have := HM.out; omega
            obtain ⟨q1, q2, q3, q4⟩ := Q4.out hnw hlm
            obtain ⟨s0, s1, -⟩ := HSec.out _ hlm
            rw [bkA_free (low_free hlm)] at s1
            rw [show Bk.zero.ver = 0 from rfl] at s1
            have hiI : (low L : Int) < (m : Int) := by rw [HM.out] at hlm; omega
            have heq : ((low L : Int) == (m : Int)) = false := by simp; omega
            have HPt := Lib.hid (HP.out hlm)
            have HD := Lib.hid (Q5.out hlm)
            have HLm := Lib.hid hlm
            rw [← q1, ← q2] at HPt
            rw [← q1] at HD q3 q4
            have HQ3 := Lib.hid q3
            have HQ4 := Lib.hid q4
            clear hlm hfull hll hlt hi q1 q2 q3 q4 s0
            obtain ⟨d0, d1, d2⟩ := A2.out.all
            obtain ⟨lw, hlw⟩ : ∃ x, low L = x := ⟨_, rfl⟩
            rw [hlw] at s1 hiI heq HPt HLm HQ3 hi0 ⊢
            clear hlw
            go_wp2_with fail
            go_at_call 107
            refine HPt.out.mono ?_
            rintro e w3 ⟨rfl, k2⟩
            have S3 := Lib.hid (HK.out _ _ _ _ _ k2)
            have A3 := Lib.hid (S3.out.ab A0.out HFz.out)
            clear k2 HPt c1 s1 d0 d1 d2
            by_cases hpe : pE = 0
            · obtain rfl := HQ3.out hpe
              subst hpe
              obtain ⟨d0, d1, d2⟩ := A3.out.all
              have hlp := Lib.hid (show lostP false 0 = false from by decide)
              go_wp2_with fail
              go_at_call 98
              refine (rsg_lay S3.out HLm.out HRe.out).mono ?_
              rintro e w4 ⟨rfl, k2⟩
              have S4 := Lib.hid k2
              clear k2 d0 d1 d2
              go_wp2
              go_ret
              exact ⟨rfl, by rw [hlp.out]; exact RSg.ahead B0.out S4.out⟩
            · obtain rfl := HQ4.out hpe
              obtain ⟨rfl, -⟩ := HD.out hpe
              obtain ⟨k1, f3⟩ := S3.out.setLost
              obtain ⟨-, c3⟩ := S3.out.c0
              have S4 := Lib.hid k1
              have hlp := Lib.hid (show lostP false 70 = true from by decide)
              clear k1 hpe
              go_wp2
              go_ret
              exact ⟨rfl, by rw [hlp.out]; exact RSg.ahead B0.out S4.out⟩
    · have hnw : newer L b = false := by rw [hnv]; exact decide_eq_false hv
      have hv1 : decide (b.ver ≤ c.ver) = true := decide_eq_true (by omega)
      obtain ⟨z1, z2, z3⟩ := Q2.out hnw
      have HZ1 := Lib.hid z1
      have HZ2 := Lib.hid z2
      have HZ3 := Lib.hid z3
      have hlp := Lib.hid (show lostP false 5 = false from by decide)
      have HS2 := Lib.hid (fun nq => S1.out.below (below_drewN (Below.refl w1.heap.size w1) nq))
      clear e1 e2 e3 e4 hsec s0 hnv hv z1 z2 z3 Q2 Q3 Q4 Q5
      generalize L.length = m0 at c1 hkI
      go_wp2_with (go_at_call 42; refine HA.out.mono ?_; rintro e w' ⟨rfl, rfl⟩)
      go_quiet (fail)
      go_wp2
      go_ret
      exact ⟨by rw [HZ1.out]; rfl, by rw [HZ1.out, HZ2.out, HZ3.out, hlp.out]; exact RSg.ahead B0.out (HS2.out _)⟩
end Go.Proofs.YtmmpknfkncgjpaaGreatDoor
