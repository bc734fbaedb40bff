/-
  PlateScript, walked.
-/
import Derived.Test.YtodllmgcoclnmaaSteps
namespace Go.Proofs.Ytodllmgcoclnmaa
open Go.RowKit

set_option maxRecDepth 100000 in
set_option maxHeartbeats 8000000 in
theorem script_any (n : Int) (A : Option Addr) (m c : Nat) (st : Nat → Stp) (w : World) (hS : Steps w A m st) (hm : m ≤ 9223372036854775807) :
    Calls Try.prog 3 #[.int .i64 n, .slice A m c] w fun e w' => e = .returned (.bool true) ∧ Below w.heap.size w w' := by
  have HS := Lib.hid hS
  have HV := Lib.hid (heavy_any A m c st w hS hm)
  have HNW := Lib.hid (fun w => new_any n w)
  have HRN := Lib.hid (fun w => rnew_any n w)
  have GF := Lib.hid (Good.fresh n)
  have HZ0 := Lib.hid (show (fresh n).wait.length ≤ 0 ∧ (fresh n).n ≤ 0 from ⟨Nat.le_refl _, Nat.le_refl _⟩)
  clear hS
  go_enter Try.func3, Try.ntmps3
  go_wp2_with fail
  go_at_call 8
  refine HV.out.mono ?_
  rintro e w1 ⟨⟨v, rfl, hv⟩, rfl⟩
  clear HV
  cases v with
  | true =>
    go_wp2
    go_ret
    exact ⟨rfl, Below.refl _ _⟩
  | false =>
    have hm2 : m ≤ 200 := hv rfl
    clear hv
    go_wp2_with fail
    go_at_call 9
    refine (HNW.out _).mono ?_
    rintro e w1 ⟨rfl, k1⟩
    have P1 := Lib.hid (PIn.start (Below.refl _ w) k1)
    clear k1
    generalize w.heap.size = b at P1
    go_wp2_with fail
    go_at_call 10
    refine (HRN.out _).mono ?_
    rintro e w2 ⟨rfl, k2⟩
    have P2 := Lib.hid (PR.start P1.out k2)
    clear k2
    generalize w1.heap.size = r at P2
    generalize fresh n = s0 at P2 GF HZ0
    have hz0 : s0.wait.length ≤ 0 ∧ s0.n ≤ 0 := HZ0.out
    have Z0 := Lib.hid hz0
    clear hz0 HZ0
    go_wp2_with fail
    obtain ⟨⟨A0, cp0, e0, -⟩, -, -⟩ := P2.out.cells
    go_quiet ((go_at_call 11; exact calls_drawn (pr_size (P2.out.drewN _))))
    clear e0 P1
    go_wp2_with fail
    go_loopw [7] (fun iv wr => ∃ (k : Nat) (s : St), k ≤ m ∧ iv = .int .i64 k ∧ PR w wr b s r s ∧ Good s ∧ s.wait.length ≤ k ∧ s.n ≤ k) (fun iv _ => m - (intOf iv).toNat)
    case atStart => exact ⟨0, s0, Nat.zero_le _, rfl, P2.out.drewN _, GF.out, Z0.out.1, Z0.out.2⟩
    case round =>
      obtain ⟨k, s, hk, rfl, hP, hG, hwt, hsn⟩ := hrel
      have P3 := Lib.hid hP
      have G3 := Lib.hid hG
      clear hP hG GF P2 Z0
      by_cases hlt : k < m
      · have hlI : (k : Int) < (m : Int) := by omega
        have hk0 : (0 : Int) ≤ (k : Int) := by omega
        obtain ⟨ab, off, rfl, hat0⟩ := HS.out k hlt
        have hat := hat0.below P3.out.bel hat0.lt
        obtain ⟨c0, c1, c2, c3, wi, ws, wk⟩ := hat
        clear hat0
        generalize st k = o at c0 c1 c2 c3 wi ws wk
        have Q3 := Lib.hid (fun x => PRS.start P3.out x o)
        clear P3
        by_cases hx0 : o.k = 0
        · rw [hx0] at c0
          have Q4 := Lib.hid (Q3.out 0)
          clear Q3
          have G4 := Lib.hid (G3.out.write o.i o.s)
          have hw4 : (writeS s o.i o.s).wait.length ≤ k + 1 := Nat.le_trans (write_wait s o.i o.s) (by omega)
          have hn4 : (writeS s o.i o.s).n ≤ k + 1 := Nat.le_trans (write_n s o.i o.s) (by omega)
          have HA := Lib.hid (fun W (Q : PRS w W b s r s wr.heap.size o) => po_write Q.1 G3.out (by omega) (by omega) o.i o.s ws)
          have HB := Lib.hid (fun W s1 (Q : PRS w W b s1 r s wr.heap.size o) => ro_write Q.1 G3.out (by omega) (by omega) o.i o.s ws)
          generalize writeS s o.i o.s = s4 at G4 hw4 hn4 HA HB
          generalize writeE s o.i o.s = ev at HA HB
          generalize hkk : wr.heap.size = kk at Q4 HA HB
          go_wp2_with fail
          generalize wr.alloc (.cells #[.int .i64 0, .int .i64 o.i, .string o.s, .int .u64 (o.keep : Int)] 35) = wa at Q4 ⊢
          clear hkk
          have Qd := Lib.hid (Q4.out.below ((Below.refl _ _).drew))
          clear Q4
          go_region_held3 (fun w' => w'.cell? ⟨kk, 1, none⟩ = some (.int .i64 o.i) ∧ w'.cell? ⟨kk, 2, none⟩ = some (.string o.s))
            (first | exact ⟨Qd.out.2.c1, Qd.out.2.c2⟩ | exact ⟨Qe.out.2.c1, Qe.out.2.c2⟩ | exact ⟨Q5.out.2.c1, Q5.out.2.c2⟩ | fail)
            (first
              | (go_at_call 12; refine (HA.out _ Qd.out).mono ?_; rintro e w4 ⟨rfl, k1⟩; have Qe := Lib.hid (Qd.out.step k1); clear k1)
              | (go_at_call 13; refine (HB.out _ _ Qe.out).mono ?_; rintro e w5 ⟨rfl, k1⟩; have Q5 := Lib.hid (Qe.out.step k1); clear k1)
              | fail)
          clear HA HB
          obtain ⟨z1, z2, z3⟩ := Q5.out.2
          go_wp2_with (first
            | (go_at_call 22; refine (pin_read Q5.out.1.pr.pin G4.out o.i).mono ?_; rintro e w5 ⟨rfl, k1⟩; have Q6 := Lib.hid (Q5.out.below k1); (obtain ⟨d1, d2, d3⟩ := Q6.out.2); clear k1)
            | (go_at_call 23; refine (prr_read Q6.out.1.pr o.i).mono ?_; rintro e w6 ⟨rfl, rfl⟩)
            | fail)
          obtain ⟨-, e2, e5⟩ := Q6.out.1.pr.cells
          generalize readV s4 o.i = rv
          generalize wrong s4 o.i = rw
          go_quiet ((first
            | (go_at_call 24; exact calls_drawn (pin_dead (Q6.out.1.pr.pin.drewN _)))
            | (go_at_call 25; exact calls_drawn (pin_calls (Q6.out.1.pr.pin.drewN _)))))
          go_wp2_with fail
          go_roundw
          case rel => exact ⟨k + 1, s4, by omega, by go_num, Q6.out.1.pr.drewN _, G4.out, hw4, hn4⟩
          case measure => simp [intOf]; omega
        by_cases hx1 : o.k = 1
        · rw [hx1] at c0
          have Q4 := Lib.hid (Q3.out 1)
          clear Q3
          have G4 := Lib.hid (G3.out.sync)
          have hw4 : (syncS s).wait.length ≤ k + 1 := Nat.le_trans (sync_wait s) (by omega)
          have hn4 : (syncS s).n ≤ k + 1 := Nat.le_trans (sync_n s) (by omega)
          have HA := Lib.hid (fun W (Q : PRS w W b s r s wr.heap.size o) => po_sync Q.1 G3.out (by omega) (by omega))
          have HB := Lib.hid (fun W s1 (Q : PRS w W b s1 r s wr.heap.size o) => ro_sync Q.1 G3.out (by omega))
          generalize syncS s = s4 at G4 hw4 hn4 HA HB
          generalize syncE s = ev at HA HB
          generalize hkk : wr.heap.size = kk at Q4 HA HB
          go_wp2_with fail
          generalize wr.alloc (.cells #[.int .i64 1, .int .i64 o.i, .string o.s, .int .u64 (o.keep : Int)] 35) = wa at Q4 ⊢
          clear hkk
          obtain ⟨x1, x2, x3⟩ := Q4.out.2
          go_wp2_with (first
            | (go_at_call 14; refine (HA.out _ Q4.out).mono ?_; rintro e w4 ⟨rfl, k1⟩; have Qe := Lib.hid (Q4.out.step k1); (obtain ⟨y1, y2, y3⟩ := Qe.out.2); clear k1)
            | (go_at_call 15; refine (HB.out _ _ Qe.out).mono ?_; rintro e w5 ⟨rfl, k1⟩; have Q5 := Lib.hid (Qe.out.step k1); (obtain ⟨z1, z2, z3⟩ := Q5.out.2); clear k1)
            | (go_at_call 22; refine (pin_read Q5.out.1.pr.pin G4.out o.i).mono ?_; rintro e w5 ⟨rfl, k1⟩; have Q6 := Lib.hid (Q5.out.below k1); (obtain ⟨d1, d2, d3⟩ := Q6.out.2); clear k1)
            | (go_at_call 23; refine (prr_read Q6.out.1.pr o.i).mono ?_; rintro e w6 ⟨rfl, rfl⟩)
            | fail)
          obtain ⟨-, e2, e5⟩ := Q6.out.1.pr.cells
          generalize readV s4 o.i = rv
          generalize wrong s4 o.i = rw
          go_quiet ((first
            | (go_at_call 24; exact calls_drawn (pin_dead (Q6.out.1.pr.pin.drewN _)))
            | (go_at_call 25; exact calls_drawn (pin_calls (Q6.out.1.pr.pin.drewN _)))))
          go_wp2_with fail
          go_roundw
          case rel => exact ⟨k + 1, s4, by omega, by go_num, Q6.out.1.pr.drewN _, G4.out, hw4, hn4⟩
          case measure => simp [intOf]; omega
        by_cases hx2 : o.k = 2
        · rw [hx2] at c0
          have Q4 := Lib.hid (Q3.out 2)
          clear Q3
          have G4 := Lib.hid (G3.out.cut wi wk)
          have hw4 : (cut s o.i o.keep).wait.length ≤ k + 1 := by show s.wait.length ≤ k + 1; omega
          have hn4 : (cut s o.i o.keep).n ≤ k + 1 := by show s.n ≤ k + 1; omega
          have HA := Lib.hid (fun W (Q : PRS w W b s r s wr.heap.size o) => po_cut Q.1 o.i o.keep wi wk)
          have HB := Lib.hid (fun W s1 (Q : PRS w W b s1 r s wr.heap.size o) => ro_cut Q.1 o.i o.keep)
          generalize cut s o.i o.keep = s4 at G4 hw4 hn4 HA HB
          generalize hkk : wr.heap.size = kk at Q4 HA HB
          go_wp2_with fail
          generalize wr.alloc (.cells #[.int .i64 2, .int .i64 o.i, .string o.s, .int .u64 (o.keep : Int)] 35) = wa at Q4 ⊢
          clear hkk
          obtain ⟨x1, x2, x3⟩ := Q4.out.2
          go_wp2_with (first
            | (go_at_call 16; refine (HA.out _ Q4.out).mono ?_; rintro e w4 ⟨rfl, k1⟩; have Qe := Lib.hid (Q4.out.step k1); (obtain ⟨y1, y2, y3⟩ := Qe.out.2); clear k1)
            | (go_at_call 17; refine (HB.out _ _ Qe.out).mono ?_; rintro e w5 ⟨rfl, k1⟩; have Q5 := Lib.hid (Qe.out.step k1); (obtain ⟨z1, z2, z3⟩ := Q5.out.2); clear k1)
            | (go_at_call 22; refine (pin_read Q5.out.1.pr.pin G4.out o.i).mono ?_; rintro e w5 ⟨rfl, k1⟩; have Q6 := Lib.hid (Q5.out.below k1); (obtain ⟨d1, d2, d3⟩ := Q6.out.2); clear k1)
            | (go_at_call 23; refine (prr_read Q6.out.1.pr o.i).mono ?_; rintro e w6 ⟨rfl, rfl⟩)
            | fail)
          obtain ⟨-, e2, e5⟩ := Q6.out.1.pr.cells
          generalize readV s4 o.i = rv
          generalize wrong s4 o.i = rw
          go_quiet ((first
            | (go_at_call 24; exact calls_drawn (pin_dead (Q6.out.1.pr.pin.drewN _)))
            | (go_at_call 25; exact calls_drawn (pin_calls (Q6.out.1.pr.pin.drewN _)))))
          go_wp2_with fail
          go_roundw
          case rel => exact ⟨k + 1, s4, by omega, by go_num, Q6.out.1.pr.drewN _, G4.out, hw4, hn4⟩
          case measure => simp [intOf]; omega
        by_cases hx3 : o.k = 3
        · rw [hx3] at c0
          have Q4 := Lib.hid (Q3.out 3)
          clear Q3
          have G4 := Lib.hid (G3.out.crash o.keep)
          have hw4 : (crash s o.keep).wait.length ≤ k + 1 := Nat.le_trans (crash_wait s o.keep) (by omega)
          have hn4 : (crash s o.keep).n ≤ k + 1 := by rw [crash_n]; omega
          have HA := Lib.hid (fun W (Q : PRS w W b s r s wr.heap.size o) => po_crash Q.1 G3.out (by omega) o.keep wk)
          have HB := Lib.hid (fun W s1 (Q : PRS w W b s1 r s wr.heap.size o) => ro_crash Q.1 G3.out o.keep)
          generalize crash s o.keep = s4 at G4 hw4 hn4 HA HB
          generalize hkk : wr.heap.size = kk at Q4 HA HB
          go_wp2_with fail
          generalize wr.alloc (.cells #[.int .i64 3, .int .i64 o.i, .string o.s, .int .u64 (o.keep : Int)] 35) = wa at Q4 ⊢
          clear hkk
          obtain ⟨x1, x2, x3⟩ := Q4.out.2
          go_wp2_with (first
            | (go_at_call 18; refine (HA.out _ Q4.out).mono ?_; rintro e w4 ⟨rfl, k1⟩; have Qe := Lib.hid (Q4.out.step k1); (obtain ⟨y1, y2, y3⟩ := Qe.out.2); clear k1)
            | (go_at_call 19; refine (HB.out _ _ Qe.out).mono ?_; rintro e w5 ⟨rfl, k1⟩; have Q5 := Lib.hid (Qe.out.step k1); (obtain ⟨z1, z2, z3⟩ := Q5.out.2); clear k1)
            | (go_at_call 22; refine (pin_read Q5.out.1.pr.pin G4.out o.i).mono ?_; rintro e w5 ⟨rfl, k1⟩; have Q6 := Lib.hid (Q5.out.below k1); (obtain ⟨d1, d2, d3⟩ := Q6.out.2); clear k1)
            | (go_at_call 23; refine (prr_read Q6.out.1.pr o.i).mono ?_; rintro e w6 ⟨rfl, rfl⟩)
            | fail)
          obtain ⟨-, e2, e5⟩ := Q6.out.1.pr.cells
          generalize readV s4 o.i = rv
          generalize wrong s4 o.i = rw
          go_quiet ((first
            | (go_at_call 24; exact calls_drawn (pin_dead (Q6.out.1.pr.pin.drewN _)))
            | (go_at_call 25; exact calls_drawn (pin_calls (Q6.out.1.pr.pin.drewN _)))))
          go_wp2_with fail
          go_roundw
          case rel => exact ⟨k + 1, s4, by omega, by go_num, Q6.out.1.pr.drewN _, G4.out, hw4, hn4⟩
          case measure => simp [intOf]; omega
        by_cases hx4 : o.k = 4
        · rw [hx4] at c0
          have Q4 := Lib.hid (Q3.out 4)
          clear Q3
          have G4 := Lib.hid (G3.out.power)
          have hw4 : (power s).wait.length ≤ k + 1 := by show s.wait.length ≤ k + 1; omega
          have hn4 : (power s).n ≤ k + 1 := by show s.n ≤ k + 1; omega
          have HA := Lib.hid (fun W (Q : PRS w W b s r s wr.heap.size o) => po_power Q.1 )
          have HB := Lib.hid (fun W s1 (Q : PRS w W b s1 r s wr.heap.size o) => ro_power Q.1 )
          generalize power s = s4 at G4 hw4 hn4 HA HB
          generalize hkk : wr.heap.size = kk at Q4 HA HB
          go_wp2_with fail
          generalize wr.alloc (.cells #[.int .i64 4, .int .i64 o.i, .string o.s, .int .u64 (o.keep : Int)] 35) = wa at Q4 ⊢
          clear hkk
          obtain ⟨x1, x2, x3⟩ := Q4.out.2
          go_wp2_with (first
            | (go_at_call 20; refine (HA.out _ Q4.out).mono ?_; rintro e w4 ⟨rfl, k1⟩; have Qe := Lib.hid (Q4.out.step k1); (obtain ⟨y1, y2, y3⟩ := Qe.out.2); clear k1)
            | (go_at_call 21; refine (HB.out _ _ Qe.out).mono ?_; rintro e w5 ⟨rfl, k1⟩; have Q5 := Lib.hid (Qe.out.step k1); (obtain ⟨z1, z2, z3⟩ := Q5.out.2); clear k1)
            | (go_at_call 22; refine (pin_read Q5.out.1.pr.pin G4.out o.i).mono ?_; rintro e w5 ⟨rfl, k1⟩; have Q6 := Lib.hid (Q5.out.below k1); (obtain ⟨d1, d2, d3⟩ := Q6.out.2); clear k1)
            | (go_at_call 23; refine (prr_read Q6.out.1.pr o.i).mono ?_; rintro e w6 ⟨rfl, rfl⟩)
            | fail)
          obtain ⟨-, e2, e5⟩ := Q6.out.1.pr.cells
          generalize readV s4 o.i = rv
          generalize wrong s4 o.i = rw
          go_quiet ((first
            | (go_at_call 24; exact calls_drawn (pin_dead (Q6.out.1.pr.pin.drewN _)))
            | (go_at_call 25; exact calls_drawn (pin_calls (Q6.out.1.pr.pin.drewN _)))))
          go_wp2_with fail
          go_roundw
          case rel => exact ⟨k + 1, s4, by omega, by go_num, Q6.out.1.pr.drewN _, G4.out, hw4, hn4⟩
          case measure => simp [intOf]; omega
        have Q4 := Lib.hid (Q3.out o.k)
        clear Q3
        generalize hkk : wr.heap.size = kk at Q4
        go_wp2_with fail
        generalize wr.alloc (.cells #[.int .i64 o.k, .int .i64 o.i, .string o.s, .int .u64 (o.keep : Int)] 35) = wa at Q4 ⊢
        clear hkk
        obtain ⟨z1, z2, z3⟩ := Q4.out.2
        go_wp2_with (first
          | (go_at_call 22; refine (pin_read Q4.out.1.pr.pin G3.out o.i).mono ?_; rintro e w5 ⟨rfl, k1⟩; have Q6 := Lib.hid (Q4.out.below k1); (obtain ⟨d1, d2, d3⟩ := Q6.out.2); clear k1)
          | (go_at_call 23; refine (prr_read Q6.out.1.pr o.i).mono ?_; rintro e w6 ⟨rfl, rfl⟩)
          | fail)
        obtain ⟨-, e2, e5⟩ := Q6.out.1.pr.cells
        generalize readV s o.i = rv
        generalize wrong s o.i = rw
        go_quiet ((first
          | (go_at_call 24; exact calls_drawn (pin_dead (Q6.out.1.pr.pin.drewN _)))
          | (go_at_call 25; exact calls_drawn (pin_calls (Q6.out.1.pr.pin.drewN _)))))
        go_wp2_with fail
        go_roundw
        case rel => exact ⟨k + 1, s, by omega, by go_num, Q6.out.1.pr.drewN _, G3.out, by omega, by omega⟩
        case measure => simp [intOf]; omega
      · have hlI : ¬ ((k : Int) < (m : Int)) := by omega
        have G4 := Lib.hid G3.out.power
        have HA := Lib.hid (fun W (Q : PR w W b s r s) => pr_power Q)
        have HB := Lib.hid (fun W s1 (Q : PR w W b s1 r s) => prr_power Q)
        generalize power s = s4 at G4 HA HB
        go_wp2_with (first
          | (go_at_call 20; refine (HA.out _ P3.out).mono ?_; rintro e w4 ⟨rfl, k1⟩; have P4 := Lib.hid k1; clear k1)
          | (go_at_call 21; refine (HB.out _ _ P4.out).mono ?_; rintro e w5 ⟨rfl, k1⟩; have P5 := Lib.hid k1; clear k1)
          | fail)
        clear HA HB P3 HS
        have hL := G4.out.hi
        generalize hLL : s4.is.length = L at hL
        have HL := Lib.hid hLL
        clear hLL
        go_loopw [13] (fun iv wr => ∃ i : Int, -1 ≤ i ∧ i ≤ (L : Int) + 1 ∧ iv = .int .i64 i ∧ PR w wr b s4 r s4) (fun iv _ => ((L : Int) + 2 - intOf iv).toNat)
        case atStart => exact ⟨-1, by omega, by omega, rfl, P5.out⟩
        case round =>
          obtain ⟨i, hi0, hi1, rfl, hP⟩ := hrel
          have P6 := Lib.hid hP
          clear hP P5 P4
          obtain ⟨⟨A1, cp1, e0, -⟩, -, -⟩ := P6.out.cells
          rw [HL.out] at e0
          by_cases hlt2 : i ≤ (L : Int)
          · go_wp2_with (first
              | (go_at_call 22; refine (pin_read P6.out.pin G4.out i).mono ?_; rintro e w7 ⟨rfl, k1⟩; have P7 := Lib.hid (P6.out.below k1); clear k1)
              | (go_at_call 23; refine (prr_read P7.out i).mono ?_; rintro e w8 ⟨rfl, rfl⟩)
              | fail)
            go_roundw
            case rel => exact ⟨i + 1, by omega, by omega, by go_num, P7.out⟩
            case measure => simp [intOf]; omega
          · go_wp2_with fail
            go_ret
            exact ⟨rfl, P6.out.bel⟩
end Go.Proofs.Ytodllmgcoclnmaa
