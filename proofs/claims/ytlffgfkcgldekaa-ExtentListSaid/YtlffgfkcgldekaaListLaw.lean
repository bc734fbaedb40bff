/-
  ExtentList, walked.
-/
import Derived.Test.YtlffgfkcgldekaaStep
namespace Go.Proofs.Ytlffgfkcgldekaa
open Go.RowKit

theorem runs_facts {s : St} (hG : Good s) (hn : s.n = 60) (i : Nat) (x : Rg) (hx : (runs s)[i]? = some x) : x.f < x.t ∧ 0 ≤ x.f ∧ x.t ≤ 60 ∧ ∀ q, x.f ≤ q → q < x.t → s.p q = true := by
  have hb := (runs_is s).bd x (List.mem_of_getElem? hx)
  rw [hn] at hb
  exact ⟨(runs_is s).sep.pos x (List.mem_of_getElem? hx), hb.1, hb.2, fun q h1 h2 => (hG.mem q).2 ⟨x, List.mem_of_getElem? hx, h1, h2⟩⟩
theorem runs_next {s : St} (i : Nat) (x y : Rg) (hx : (runs s)[i + 1]? = some x) (hy : (runs s)[i]? = some y) : y.t < x.f := sep_get (runs_is s).sep hy hx (by omega)
set_option maxRecDepth 100000 in
set_option maxHeartbeats 8000000 in
theorem listLaw_any (A : Option Addr) (n c : Nat) (st : Nat → Stp) (w : World) (hS : Steps w A n st) (hn : n ≤ 9223372036854775807) :
    Calls Try.prog 6 #[.slice A n c] w fun e w' => e = .returned (.bool true) ∧ Below w.heap.size w w' := by
  have HS := Lib.hid hS
  have HN := Lib.hid (fun w => new_any 60 w)
  have HSH := Lib.hid (fun W (hW : Below w.heap.size w W) => (shown_any W).mono fun _ _ ⟨he, hb⟩ => And.intro he (hW.trans (hb.mono hW.size)))
  clear hS
  by_cases hbig : 60 < n
  · have hbI : (60 : Int) < (n : Int) := by omega
    go_enter Try.func6, Try.ntmps6
    go_wp2
    go_ret
    exact ⟨rfl, Below.refl _ _⟩
  have hbI : ¬ (60 < (n : Int)) := by omega
  go_enter Try.func6, Try.ntmps6
  go_wp2_with fail
  go_at_call 9
  refine (HN.out _).mono ?_
  rintro e w1 ⟨rfl, k1⟩
  have P1 := Lib.hid (PIO.start (Below.refl _ w) k1)
  clear k1 HN
  generalize w.heap.size + 1 = b at P1
  go_wp2_with fail
  go_loopw [4] (fun iv wr => ∃ (k : Nat) (s : St), k ≤ n ∧ iv = .int .i64 k ∧ PIO w wr b s (fun _ => False) ∧ Good s ∧ s.n = 60) (fun iv _ => n - (intOf iv).toNat)
  case atStart => exact ⟨0, fresh 60, Nat.zero_le _, rfl, P1.out, Good.fresh _, rfl⟩
  case round =>
    obtain ⟨k, s, hk, rfl, hP, hG, hsn⟩ := hrel
    have P3 := Lib.hid hP
    have G3 := Lib.hid hG
    have N3 := Lib.hid hsn
    clear hP hG hsn
    by_cases hlt : k < n
    · have hlI : (k : Int) < (n : Int) := by omega
      have hk0 : (0 : Int) ≤ (k : Int) := by omega
      obtain ⟨ab, off, rfl, hat0⟩ := HS.out k hlt
      obtain ⟨c0, c1, c2, c3⟩ := hat0.below P3.out.bel hat0.lt
      clear hat0
      generalize st k = o at c0 c1 c2 c3
      obtain ⟨ok, on, ⟨of, ot⟩⟩ := o
      replace c0 : wr.cell? ⟨ab, off + k * 4, none⟩ = some (.int .i64 ok) := c0
      replace c1 : wr.cell? ⟨ab, off + k * 4 + 1, none⟩ = some (.int .i64 on) := c1
      replace c2 : wr.cell? ⟨ab, off + k * 4 + 2, none⟩ = some (.int .i64 of) := c2
      replace c3 : wr.cell? ⟨ab, off + k * 4 + 3, none⟩ = some (.int .i64 ot) := c3
      by_cases x0 : ok = 0
      · subst x0
        have HC := Lib.hid (io_alloc P3.out G3.out on)
        have G4 := Lib.hid (G3.out.alloc on)
        have N4 := Lib.hid ((allocS_n s on).trans N3.out)
        generalize allocS s on = s4 at HC G4 N4
        generalize allocR s on = ra at HC
        generalize allocE s on = ea at HC
        go_wp2_with (go_at_call 13; (with_reducible refine HC.out.mono ?_); rintro e w4 ⟨rfl, hP, hkp⟩; have P4 := Lib.hid hP; have K4 := Lib.hid hkp; clear hP hkp)
        go_roundw
        case rel => exact ⟨k + 1, s4, by omega, by go_num, P4.out, G4.out, N4.out⟩
        case measure => simp [intOf]; omega
      by_cases x1 : ok = 1
      · subst x1
        have HC := Lib.hid (io_take P3.out G3.out ⟨of, ot⟩)
        have G4 := Lib.hid (G3.out.take ⟨of, ot⟩)
        have N4 := Lib.hid ((takeS_n s ⟨of, ot⟩).trans N3.out)
        generalize takeS s ⟨of, ot⟩ = s4 at HC G4 N4
        generalize takeE s ⟨of, ot⟩ = ea at HC
        go_wp2_with (go_at_call 15; (with_reducible refine HC.out.mono ?_); rintro e w4 ⟨rfl, hP, hkp⟩; have P4 := Lib.hid hP; have K4 := Lib.hid hkp; clear hP hkp)
        go_roundw
        case rel => exact ⟨k + 1, s4, by omega, by go_num, P4.out, G4.out, N4.out⟩
        case measure => simp [intOf]; omega
      by_cases x2 : ok = 2
      · subst x2
        have HC := Lib.hid (io_give P3.out G3.out ⟨of, ot⟩)
        have G4 := Lib.hid (G3.out.give ⟨of, ot⟩)
        have N4 := Lib.hid ((giveS_n s ⟨of, ot⟩).trans N3.out)
        generalize giveS s ⟨of, ot⟩ = s4 at HC G4 N4
        generalize giveE s ⟨of, ot⟩ = ea at HC
        go_wp2_with (go_at_call 17; (with_reducible refine HC.out.mono ?_); rintro e w4 ⟨rfl, hP, hkp⟩; have P4 := Lib.hid hP; have K4 := Lib.hid hkp; clear hP hkp)
        go_roundw
        case rel => exact ⟨k + 1, s4, by omega, by go_num, P4.out, G4.out, N4.out⟩
        case measure => simp [intOf]; omega
      have d0 : (ok == 0) = false := by simpa using x0
      have d1 : (ok == 1) = false := by simpa using x1
      have d2 : (ok == 2) = false := by simpa using x2
      go_wp2_with fail
      go_roundw
      case rel => exact ⟨k + 1, s, by omega, by go_num, P3.out, G3.out, N3.out⟩
      case measure => simp [intOf]; omega
    · obtain rfl : n = k := by omega
      have hlI : ¬ ((n : Int) < (n : Int)) := by omega
      have hr := runs_is s
      have HNC := Lib.hid (runs_total s)
      have HTK := Lib.hid (total_take hr.sep)
      have HSQ := Lib.hid (fun i x hx => runs_facts G3.out N3.out i x hx)
      have HSP := Lib.hid (fun i x y hx hy => runs_next (s := s) i x y hx hy)
      have hlen := runs_length G3.out
      have HL := Lib.hid (io_list P3.out G3.out)
      clear hr
      generalize hrs : runs s = l at *
      clear hrs
      go_wp2_with fail
      go_at_call 20
      refine HL.out.mono ?_
      rintro e w5 ⟨⟨v, rfl, hv⟩, hb⟩
      obtain ⟨B, d, rfl, hd, hB⟩ := hv.rd
      have P4 := Lib.hid (P3.out.below hb)
      have B4 := Lib.hid hB
      clear hB hv hb HL P3
      have HG := Lib.hid (fun a (ha : a < l.length) => ex_get ha)
      have HTS := Lib.hid (fun i x hx => total_snoc (l := l) (k := i) (x := x) hx)
      have HTL := Lib.hid (show l.take l.length = l by simp)
      go_wp2_with fail
      go_loopw [6, 7] (fun nv iv wr => ∃ j : Nat, j ≤ l.length ∧ iv = .int .i64 j ∧ nv = .int .i64 (total (l.take j)) ∧ PIO w wr b s (fun _ => False) ∧ Rd wr B l) (fun _ iv _ => l.length - (intOf iv).toNat)
      case atStart => exact ⟨0, Nat.zero_le _, rfl, rfl, P4.out, B4.out⟩
      case round =>
        obtain ⟨j, hj, rfl, rfl, hP, hB⟩ := hrel
        have P5 := Lib.hid hP
        have B5 := Lib.hid hB
        clear hP hB
        have t1 := HTK.out j
        by_cases hjl : j < l.length
        · have hjI : (j : Int) < (l.length : Int) := by omega
          have hj0 : (0 : Int) ≤ (j : Int) := by omega
          obtain ⟨⟨xf, xt⟩, hx⟩ := HG.out j hjl
          obtain ⟨gl, rfl, a0, a1⟩ := B5.out j _ hx
          replace a0 : wr.cell? ⟨gl, j * 2, none⟩ = some (.int .i64 xf) := a0
          replace a1 : wr.cell? ⟨gl, j * 2 + 1, none⟩ = some (.int .i64 xt) := a1
          obtain ⟨q1, q2, q3, q4⟩ := HSQ.out j _ hx
          replace q1 : xf < xt := q1
          replace q2 : 0 ≤ xf := q2
          replace q3 : xt ≤ 60 := q3
          have HQ := Lib.hid q4
          have HX := Lib.hid hx
          have t2 := HTK.out (j + 1)
          have t3 : total (l.take (j + 1)) = total (l.take j) + (xt - xf) := HTS.out j _ hx
          have t4 : total (l.take j) + (xt - xf) ≤ 60 := by have := N3.out; omega
          have T3 := Lib.hid t3
          clear hx q4 t3 t2
          have e1 : decide (xt ≤ xf) = false := by simpa using q1
          have e2 : decide (xf < 0) = false := by simpa using q2
          have e3 : decide (60 < xt) = false := by simpa using q3
          by_cases hj1 : j = 0
          · have e4 : decide ((0 : Int) < (j : Int)) = false := by simp [hj1]
            have e4n : decide (0 < j) = false := by simp [hj1]
            clear hj1
            go_wp2_with fail
            go_quiet (fail)
            go_wp2_with fail
            go_loopw [6, 8] (fun nv qv wq => ∃ q : Int, xf ≤ q ∧ q ≤ xt ∧ qv = .int .i64 q ∧ nv = .int .i64 (total (l.take j) + (q - xf)) ∧ PIO w wq b s (fun _ => False) ∧ Rd wq (some ⟨gl, 0, none⟩) l) (fun _ qv _ => (xt - intOf qv).toNat)
            case atStart => exact ⟨xf, by omega, by omega, rfl, by rw [Int.sub_self, Int.add_zero], P5.out.below (below_drewN (Below.refl _ _) nq), B5.out.below (below_drewN (Below.refl _ _) nq)⟩
            case round =>
              obtain ⟨q, hq1, hq2, rfl, rfl, hP, hB⟩ := hrel
              have P6 := Lib.hid hP
              have B6 := Lib.hid hB
              clear hP hB
              obtain ⟨g2, hg2, d0, d1⟩ := B6.out j _ HX.out
              simp only [Option.some.injEq, Addr.mk.injEq, and_true] at hg2
              subst hg2
              clear d0
              by_cases hqt : q < xt
              · have HI := io_is P6.out G3.out q
                rw [HQ.out q hq1 hqt] at HI
                have HI := Lib.hid HI
                go_wp2_with (go_at_call 22; (with_reducible refine HI.out.mono ?_); rintro e w7 ⟨rfl, hb⟩; have P7 := Lib.hid (P6.out.below hb); have B7 := Lib.hid (B6.out.below hb); clear hb)
                go_roundw
                case rel => exact ⟨q + 1, by omega, by omega, rfl, congrArg (Value.int .i64) (by omega), P7.out, B7.out⟩
                case measure => simp [intOf]; omega
              · obtain rfl : q = xt := by omega
                go_wp2_with fail
                go_roundw
                case rel => exact ⟨j + 1, by omega, by go_num, congrArg (Value.int .i64) T3.out.symm, P6.out, B6.out⟩
                case measure => simp [intOf]; omega
          · obtain ⟨⟨yf, yt⟩, hy⟩ := HG.out (j - 1) (by omega)
            obtain ⟨gy, hgy, b0, b1⟩ := B5.out (j - 1) _ hy
            simp only [Option.some.injEq, Addr.mk.injEq, and_true] at hgy
            subst hgy
            replace b1 : wr.cell? ⟨gl, (j - 1) * 2 + 1, none⟩ = some (.int .i64 yt) := b1
            have e5 : yt < xf := HSP.out (j - 1) ⟨xf, xt⟩ ⟨yf, yt⟩ (by rw [show j - 1 + 1 = j by omega]; exact HX.out) hy
            have e6 : decide (xf ≤ yt) = false := by simpa using e5
            have e4 : (0 : Int) < (j : Int) := by omega
            have e4n : 0 < j := by omega
            have e7 : ((j : Int) - 1).toNat = j - 1 := by omega
            have e8 : (0 : Int) ≤ (j : Int) - 1 := by omega
            clear hy b0
            go_wp2_with fail
            go_quiet (fail)
            go_wp2_with fail
            go_loopw [6, 8] (fun nv qv wq => ∃ q : Int, xf ≤ q ∧ q ≤ xt ∧ qv = .int .i64 q ∧ nv = .int .i64 (total (l.take j) + (q - xf)) ∧ PIO w wq b s (fun _ => False) ∧ Rd wq (some ⟨gl, 0, none⟩) l) (fun _ qv _ => (xt - intOf qv).toNat)
            case atStart => exact ⟨xf, by omega, by omega, rfl, by rw [Int.sub_self, Int.add_zero], P5.out.below (below_drewN (Below.refl _ _) nq), B5.out.below (below_drewN (Below.refl _ _) nq)⟩
            case round =>
              obtain ⟨q, hq1, hq2, rfl, rfl, hP, hB⟩ := hrel
              have P6 := Lib.hid hP
              have B6 := Lib.hid hB
              clear hP hB
              obtain ⟨g2, hg2, d0, d1⟩ := B6.out j _ HX.out
              simp only [Option.some.injEq, Addr.mk.injEq, and_true] at hg2
              subst hg2
              clear d0
              by_cases hqt : q < xt
              · have HI := io_is P6.out G3.out q
                rw [HQ.out q hq1 hqt] at HI
                have HI := Lib.hid HI
                go_wp2_with (go_at_call 22; (with_reducible refine HI.out.mono ?_); rintro e w7 ⟨rfl, hb⟩; have P7 := Lib.hid (P6.out.below hb); have B7 := Lib.hid (B6.out.below hb); clear hb)
                go_roundw
                case rel => exact ⟨q + 1, by omega, by omega, rfl, congrArg (Value.int .i64) (by omega), P7.out, B7.out⟩
                case measure => simp [intOf]; omega
              · obtain rfl : q = xt := by omega
                go_wp2_with fail
                go_roundw
                case rel => exact ⟨j + 1, by omega, by go_num, congrArg (Value.int .i64) T3.out.symm, P6.out, B6.out⟩
                case measure => simp [intOf]; omega
        · have hjn : ¬ ((j : Int) < (l.length : Int)) := by omega
          have hE : total (l.take j) = cnt s.p s.n := by rw [show j = l.length by omega, HTL.out, HNC.out]
          rw [hE] at t1 ⊢
          have HFR := Lib.hid (io_free P5.out G3.out)
          generalize cnt s.p s.n = cf at *
          go_wp2_with (first
            | (go_at_call 11; (with_reducible refine HFR.out.mono ?_); rintro e w6 ⟨rfl, hb⟩; have P6 := Lib.hid (P5.out.below hb); clear hb)
            | (go_at_call 24; (with_reducible refine (HSH.out _ P6.out.bel).mono ?_); rintro e w7 ⟨rfl, hb⟩; have P7 := Lib.hid hb; clear hb)
            | fail)
          go_ret
          exact ⟨rfl, P7.out⟩
end Go.Proofs.Ytlffgfkcgldekaa
