/-
  PlateLasts, walked.
-/
import Derived.Test.YtodllmgcoclnmaaFree
namespace Go.Proofs.Ytodllmgcoclnmaa
open Go.RowKit

theorem info_bool : (Try.prog.info? 4).map (fun i => (i.zero, i.size, i.bytes)) = some (some (.bool false), 1, 1) := by kernel_rfl

set_option maxRecDepth 100000 in
set_option maxHeartbeats 8000000 in
theorem lasts_any (A1 : Option Addr) (n1 c1 : Nat) (st1 : Nat → Stp) (A2 : Option Addr) (n2 c2 : Nat) (st2 : Nat → Stp) (keep : Nat) (w : World) (hS1 : Steps w A1 n1 st1) (hS2 : Steps w A2 n2 st2) (hn1 : n1 ≤ 9223372036854775807) (hn2 : n2 ≤ 9223372036854775807) (hkp : keep < 18446744073709551616) :
    Calls Try.prog 5 #[.slice A1 n1 c1, .slice A2 n2 c2, .int .u64 (keep : Int)] w fun e w' => e = .returned (.bool true) ∧ Below w.heap.size w w' := by
  have HS1 := Lib.hid hS1
  have HS2 := Lib.hid hS2
  have HV1 := Lib.hid (heavy_any A1 n1 c1 st1 w hS1 hn1)
  have HV2 := Lib.hid (heavy_any A2 n2 c2 st2 w hS2 hn2)
  have HNW := Lib.hid (fun w => new_any 9 w)
  have HRN := Lib.hid (fun w => rnew_any 9 w)
  have F0 := Lib.hid Fr.fresh
  have hmk : ∀ w : World, (Instr.makeSlice 47 (.int .i64 9) (.int .i64 9)).run Try.prog w = .ok (.slice (some ⟨w.heap.size, 0, none⟩) 9 9) (w.alloc (.cells (madeCells #[.bool false] 9) 4)) :=
    fun w => run_make_row' 47 4 _ 1 Try.underlying47 info_bool rfl .i64 .i64 9 (by omega) (by omega) w
  clear hS1 hS2
  go_enter Try.func5, Try.ntmps5
  go_wp2_with fail
  go_at_call 8
  refine HV1.out.mono ?_
  rintro e w1 ⟨⟨v, rfl, hv⟩, rfl⟩
  clear HV1
  cases v with
  | true =>
    go_wp2
    go_ret
    exact ⟨rfl, Below.refl _ _⟩
  | false =>
  have hm1 : n1 ≤ 200 := hv rfl
  clear hv
  go_wp2_with fail
  go_at_call 8
  refine HV2.out.mono ?_
  rintro e w1 ⟨⟨v, rfl, hv⟩, rfl⟩
  clear HV2
  cases v with
  | true =>
    go_wp2
    go_ret
    exact ⟨rfl, Below.refl _ _⟩
  | false =>
  have hm2 : n2 ≤ 200 := hv rfl
  clear hv
  go_wp2_with fail
  go_at_call 9
  refine (HNW.out _).mono ?_
  rintro e w1 ⟨rfl, k1⟩
  have P1 := Lib.hid (PIn.start (Below.refl _ w) k1)
  clear k1
  generalize w.heap.size = b at P1
  go_wp2_with fail
  go_at_call 10
  refine (HRN.out _).mono ?_
  rintro e w2 ⟨rfl, k2⟩
  have P2 := Lib.hid (PR.start P1.out k2)
  clear k2 P1 HNW HRN
  generalize w1.heap.size = r at P2
  generalize fresh 9 = s0 at P2 F0
  go_wp2_with fail
  go_loopw [9] (fun iv wr => ∃ (k : Nat) (s : St), k ≤ n1 ∧ iv = .int .i64 k ∧ PR w wr b s r s ∧ Fr s k) (fun iv _ => n1 - (intOf iv).toNat)
  case atStart => exact ⟨0, s0, Nat.zero_le _, rfl, P2.out, F0.out⟩
  case round =>
  obtain ⟨k, s, hk, rfl, hP, hF⟩ := hrel
  have P3 := Lib.hid hP
  have F3 := Lib.hid hF
  clear hP hF P2 F0
  have hwt := F3.out.wt
  have hsn := F3.out.n
  by_cases hlt : k < n1
  · have hlI : (k : Int) < (n1 : Int) := by omega
    have hk0 : (0 : Int) ≤ (k : Int) := by omega
    obtain ⟨ab, off, rfl, hat0⟩ := HS1.out k hlt
    generalize st1 k = o at hat0
    obtain ⟨ok, oi, ot, okp⟩ := o
    have hws := hat0.ws
    by_cases hx : ok = 0
    · subst hx
      have HC := Lib.hid (fun (W : World) (h : Below w.heap.size w W) => show W.cell? ⟨ab, off + k * 4, none⟩ = some (.int .i64 0) ∧ W.cell? ⟨ab, off + k * 4 + 1, none⟩ = some (.int .i64 oi) ∧ W.cell? ⟨ab, off + k * 4 + 2, none⟩ = some (.string ot) from ⟨(hat0.below h hat0.lt).c0, (hat0.below h hat0.lt).c1, (hat0.below h hat0.lt).c2⟩)
      have Pd := Lib.hid (P3.out.below ((Below.refl _ _).drew))
      have HA := Lib.hid (fun W (Q : PR w W b s r s) => pr_write Q F3.out.good (by omega) (by omega) oi ot hws)
      have HB := Lib.hid (fun W s1 (Q : PR w W b s1 r s) => prr_write Q F3.out.good (by omega) (by omega) oi ot hws)
      have F4 := Lib.hid (F3.out.write oi ot)
      clear hat0 P3 F3
      generalize writeS s oi ot = s4 at HA HB F4
      generalize writeE s oi ot = ev at HA HB
      go_wp2_with fail
      go_region_held3 (fun w' => w'.cell? ⟨ab, off + k * 4, none⟩ = some (.int .i64 0) ∧ w'.cell? ⟨ab, off + k * 4 + 1, none⟩ = some (.int .i64 oi) ∧ w'.cell? ⟨ab, off + k * 4 + 2, none⟩ = some (.string ot))
        (first | exact HC.out _ Pd.out.bel | exact HC.out _ Pe.out.bel | exact HC.out _ P5.out.bel | fail)
        (first
          | (go_at_call 12; refine (HA.out _ Pd.out).mono ?_; rintro e w4 ⟨rfl, k1⟩; have Pe := Lib.hid k1; clear k1)
          | (go_at_call 13; refine (HB.out _ _ Pe.out).mono ?_; rintro e w5 ⟨rfl, k1⟩; have P5 := Lib.hid k1; clear k1)
          | fail)
      clear HA HB
      go_wp2_with fail
      go_roundw
      case rel => exact ⟨k + 1, s4, by omega, by go_num, P5.out, F4.out⟩
      case measure => simp [intOf]; omega
    · have c0 := (hat0.below P3.out.bel hat0.lt).c0
      have hd : decide (ok = 0) = false := decide_eq_false hx
      have hd2 : (ok == 0) = false := by simpa using hx
      clear hat0
      go_wp2_with fail
      go_quiet (fail)
      go_wp2_with fail
      go_roundw
      case rel => exact ⟨k + 1, s, by omega, by go_num, P3.out.drewN _, F3.out.mono (by omega)⟩
      case measure => simp [intOf]; omega
  · have hlI : ¬ ((k : Int) < (n1 : Int)) := by omega
    obtain rfl : n1 = k := by omega
    have hE := F3.out.syncE
    obtain ⟨hF4, hw4⟩ := F3.out.sync
    have HA := Lib.hid (fun W (Q : PR w W b s r s) => pr_sync Q F3.out.good (by omega) (by omega))
    have HB := Lib.hid (fun W s1 (Q : PR w W b s1 r s) => prr_sync Q F3.out.good (by omega))
    rw [hE] at HA HB
    have F4 := Lib.hid hF4
    have W4 := Lib.hid hw4
    clear hE hF4 hw4 F3
    generalize syncS s = s1 at HA HB F4 W4
    go_wp2_with (first
      | (go_at_call 14; refine (HA.out _ P3.out).mono ?_; rintro e w4 ⟨rfl, k1⟩; have P4 := Lib.hid k1; clear k1)
      | (go_at_call 15; refine (HB.out _ _ P4.out).mono ?_; rintro e w5 ⟨rfl, k1⟩; have P5 := Lib.hid k1; clear k1)
      | fail)
    have P6 := Lib.hid (P5.out.also (O := (· = w5.heap.size)) ((Below.refl _ w5).alloc (Nat.le_refl _) (.cells (madeCells #[.bool false] 9) 4)) (fun k hk => by subst hk; simp))
    have R6 := Lib.hid (World.rowIs_made w5 (.bool false) 9 4)
    clear P3 P4 P5 HA HB hmk HS1
    have H2 := Lib.hid (show s1.n ≤ n1 + 1 ∧ s1.is = s1.is from ⟨F4.out.n, rfl⟩)
    generalize w5.alloc (.cells (madeCells #[.bool false] 9) 4) = w6 at P6 R6 ⊢
    generalize w5.heap.size = g at P6 R6 ⊢
    go_loopw [11] (fun iv wr => ∃ (j : Nat) (s : St) (lat : Nat → Bool), j ≤ n2 ∧ iv = .int .i64 j ∧ PRO w wr b s r s (· = g) ∧ Fr s (n1 + 1 + j) ∧ s.is = s1.is ∧ (∀ x ∈ s.wait, lat x.i = true) ∧ wr.rowIs g 4 9 (fun q => .bool (lat q))) (fun iv _ => n2 - (intOf iv).toNat)
    case atStart => exact ⟨0, s1, fun _ => false, Nat.zero_le _, rfl, P6.out, F4.out, rfl, fun x hx => by rw [W4.out] at hx; simp at hx, R6.out⟩
    case round =>
    obtain ⟨j, s, lat, hj, rfl, hP, hF, his, hla, hrow⟩ := hrel
    have P7 := Lib.hid hP
    have F7 := Lib.hid hF
    have L7 := Lib.hid hla
    have R7 := Lib.hid hrow
    have I7 := Lib.hid his
    have hG7 : g < wr.heap.size := (hP.own rfl).1
    clear hP hF hla hrow his P6 R6 F4 W4
    have hwt := F7.out.wt
    have hsn := F7.out.n
    by_cases hlt : j < n2
    · have hlI : (j : Int) < (n2 : Int) := by omega
      have hk0 : (0 : Int) ≤ (j : Int) := by omega
      obtain ⟨ab, off, rfl, hat0⟩ := HS2.out j hlt
      generalize st2 j = o at hat0
      obtain ⟨ok, oi, ot, okp⟩ := o
      have hws := hat0.ws
      by_cases hx : ok = 0
      · subst hx
        have HC := Lib.hid (fun (W : World) (h : Below w.heap.size w W) => show W.cell? ⟨ab, off + j * 4, none⟩ = some (.int .i64 0) ∧ W.cell? ⟨ab, off + j * 4 + 1, none⟩ = some (.int .i64 oi) ∧ W.cell? ⟨ab, off + j * 4 + 2, none⟩ = some (.string ot) from ⟨(hat0.below h hat0.lt).c0, (hat0.below h hat0.lt).c1, (hat0.below h hat0.lt).c2⟩)
        have Pd := Lib.hid (P7.out.below ((Below.refl _ _).drew))
        have Rd := Lib.hid ((Kept.of_below (O := (· = g)) (Below.refl wr.heap.size wr).drew (fun i hi => by subst hi; exact hG7)).row R7.out rfl)
        have HB := Lib.hid (fun W (Q : PRO w W b s r s (· = g)) => ro_write Q F7.out.good (by omega) (by omega) oi ot hws)
        clear hat0 P7 R7
        by_cases hev : writeE s oi ot = 0
        · rw [hev] at HB
          have HA := Lib.hid (fun W s1 (Q : PRO w W b s r s1 (· = g)) => po_write Q F7.out.good (by omega) (by omega) oi ot hws)
          obtain ⟨a1, a2, a3, a4⟩ := F7.out.add hev
          have F8 := Lib.hid (F7.out.write oi ot)
          have I8 := Lib.hid (a1.trans I7.out)
          obtain ⟨q, rfl⟩ : ∃ q : Nat, oi = (q : Int) := ⟨oi.toNat, by omega⟩
          have hq9 : q < 9 := by omega
          have L8 := Lib.hid (show ∀ x ∈ (writeS s (q : Int) ot).wait, (fun i => if i = q then true else lat i) x.i = true from fun x hx => by
            rw [a2] at hx
            rcases List.mem_append.1 hx with h | h
            · show (if x.i = q then true else lat x.i) = true
              rw [L7.out x h]; split <;> rfl
            · rw [List.mem_singleton] at h
              subst h
              show (if (q : Int).toNat = q then true else lat _) = true
              rw [if_pos (Int.toNat_natCast q)])
          clear a1 a2 a3 a4 hev F7 I7 L7
          generalize writeS s (q : Int) ot = s8 at HA HB F8 I8 L8
          generalize writeE s (q : Int) ot = ev at HA
          go_wp2_with fail
          go_region_held3 (fun w' => w'.cell? ⟨ab, off + j * 4, none⟩ = some (.int .i64 0) ∧ w'.cell? ⟨ab, off + j * 4 + 1, none⟩ = some (.int .i64 (q : Int)) ∧ w'.cell? ⟨ab, off + j * 4 + 2, none⟩ = some (.string ot))
            (first | exact HC.out _ Pd.out.bel | exact HC.out _ Pe.out.bel | fail)
            (first
              | (go_at_call 13; refine (HB.out _ Pd.out).mono ?_; rintro e w4 ⟨rfl, k1, k2⟩; have Pe := Lib.hid k1; have Re := Lib.hid (k2.row Rd.out rfl); clear k1 k2)
              | fail)
          have hGe : g < w4.heap.size := (Pe.out.own rfl).1
          have Pf := Lib.hid (Pe.out.below ((Below.refl _ _).drew))
          have Rf := Lib.hid ((Kept.of_below (O := (· = g)) (Below.refl w4.heap.size w4).drew (fun i hi => by subst hi; exact hGe)).row Re.out rfl)
          clear HB Pe Re Pd Rd
          go_wp2_with fail
          go_region_held3 (fun w' => w'.cell? ⟨ab, off + j * 4 + 1, none⟩ = some (.int .i64 (q : Int)) ∧ w'.cell? ⟨ab, off + j * 4 + 2, none⟩ = some (.string ot))
            (first | exact (HC.out _ Pf.out.bel).2 | exact (HC.out _ Pg.out.bel).2 | fail)
            (first
              | (go_at_call 12; refine (HA.out _ _ Pf.out).mono ?_; rintro e w5 ⟨rfl, k1, k2⟩; have Pg := Lib.hid k1; have Rg := Lib.hid (k2.row Rf.out rfl); clear k1 k2)
              | fail)
          clear HA Pf Rf
          obtain ⟨-, b1, -⟩ := HC.out _ Pg.out.bel
          have b2 := Rg.out.cell (i := q) hq9
          have b3 := Rg.out.frozen q
          have hq0 : (0 : Int) ≤ (q : Int) := by omega
          have hqI : (q : Int) < 9 := by omega
          go_wp2_with fail
          have P9 := Lib.hid (Pg.out.turn (O' := (· = g)) ((Keeps.refl (· = g) w5).set (b := g) (o := q) (.inl rfl) (.bool true)) (fun _ hk => .inl hk) (fun i hi => by subst hi; simpa [World.setCell] using (Pg.out.own rfl).1))
          have R9 := Lib.hid ((Rg.out.set q (.bool true)).congr (g := fun i => .bool (if i = q then true else lat i)) (fun i _ => by by_cases e : i = q <;> simp [e]))
          go_roundw
          case rel => exact ⟨j + 1, s8, _, by omega, by go_num, P9.out, F8.out, I8.out, L8.out, R9.out⟩
          case measure => simp [intOf]; omega
        · have hsame := F7.out.same hev
          rw [hsame] at HB
          clear hsame
          generalize writeE s oi ot = ev at HB hev
          have hd : decide (ev = 0) = false := decide_eq_false hev
          have hd2 : (ev == 0) = false := by simpa using hev
          go_wp2_with fail
          go_region_held3 (fun w' => w'.cell? ⟨ab, off + j * 4, none⟩ = some (.int .i64 0) ∧ w'.cell? ⟨ab, off + j * 4 + 1, none⟩ = some (.int .i64 oi) ∧ w'.cell? ⟨ab, off + j * 4 + 2, none⟩ = some (.string ot))
            (first | exact HC.out _ Pd.out.bel | exact HC.out _ Pe.out.bel | fail)
            (first
              | (go_at_call 13; refine (HB.out _ Pd.out).mono ?_; rintro e w4 ⟨rfl, k1, k2⟩; have Pe := Lib.hid k1; have Re := Lib.hid (k2.row Rd.out rfl); clear k1 k2)
              | fail)
          clear HB Pd Rd
          go_wp2_with fail
          go_roundw
          case rel => exact ⟨j + 1, s, lat, by omega, by go_num, Pe.out, F7.out.mono (by omega), I7.out, L7.out, Re.out⟩
          case measure => simp [intOf]; omega
      · have c0 := (hat0.below P7.out.bel hat0.lt).c0
        have hd : decide (ok = 0) = false := decide_eq_false hx
        have hd2 : (ok == 0) = false := by simpa using hx
        have RN := Lib.hid (fun n => (Kept.of_below (O := (· = g)) (below_drewN (Below.refl wr.heap.size wr) n) (fun i hi => by subst hi; exact hG7)).row R7.out rfl)
        clear hat0
        go_wp2_with fail
        go_quiet (fail)
        go_wp2_with fail
        go_roundw
        case rel => exact ⟨j + 1, s, lat, by omega, by go_num, P7.out.below (below_drewN (Below.refl _ _) _), F7.out.mono (by omega), I7.out, L7.out, RN.out _⟩
        case measure => simp [intOf]; omega
    · have hlI : ¬ ((j : Int) < (n2 : Int)) := by omega
      clear HS2 hlt
      have HCR := Lib.hid (po_crash P7.out F7.out.good (by omega) keep hkp)
      obtain ⟨g1, g2, g3, g4⟩ := crashed F7.out.gone F7.out.good keep
      rw [F7.out.len] at g3
      have GC := Lib.hid (F7.out.good.crash keep)
      have hn4 : (crash s keep).n ≤ 1000000 := by rw [crash_n]; omega
      have hw4 : (crash s keep).wait.length ≤ 1000 := by rw [g2]; exact Nat.zero_le _
      have GO := Lib.hid g1
      have HL4 := Lib.hid g3
      have HE4 := Lib.hid g2
      have HK4 := Lib.hid (show ∀ i, lat i = false → (crash s keep).is.getD i [] = s.is.getD i [] from fun i hi => g4 i (fun x hx e => by have := L7.out x hx; rw [e, hi] at this; cases this))
      have HL7 := Lib.hid F7.out.len
      clear g1 g2 g3 g4 F7 L7 I7 hwt hsn
      generalize crash s keep = s4 at HCR GC hn4 hw4 GO HL4 HE4 HK4
      have HSY := Lib.hid (fun W (Q : PRO w W b s4 r s (· = g)) => po_sync Q GC.out hw4 hn4)
      rw [(sync_gone GO.out).1, (sync_gone GO.out).2] at HSY
      have HPW := Lib.hid (fun W (Q : PRO w W b s4 r s (· = g)) => po_power Q)
      have GP := Lib.hid GC.out.power
      have HRD := Lib.hid (fun (i : Nat) (hi : i < 9) => power_read HE4.out i (by rw [HL4.out]; exact hi))
      generalize power s4 = s5 at HPW GP HRD
      go_wp2_with (first
        | (go_at_call 18; refine HCR.out.mono ?_; rintro e w7 ⟨rfl, k1, k2⟩; have P8 := Lib.hid k1; have R8 := Lib.hid (k2.row R7.out rfl); clear k1 k2)
        | (go_at_call 24; refine (pin_dead P8.out.pr.pin).mono ?_; rw [GO.out]; rintro e w8 ⟨rfl, rfl⟩)
        | (go_at_call 14; refine (HSY.out _ P8.out).mono ?_; rintro e w9 ⟨rfl, k1, k2⟩; have P9 := Lib.hid k1; have R9 := Lib.hid (k2.row R8.out rfl); clear k1 k2)
        | (go_at_call 20; refine (HPW.out _ P9.out).mono ?_; rintro e w10 ⟨rfl, k1, k2⟩; have P10 := Lib.hid k1; have R10 := Lib.hid (k2.row R9.out rfl); clear k1 k2)
        | fail)
      clear HCR HSY HPW P7 R7 P8 R8 P9 R9
      go_loopw [12] (fun iv wr => ∃ i : Nat, i ≤ 9 ∧ iv = .int .i64 i ∧ PRO w wr b s5 r s (· = g) ∧ wr.rowIs g 4 9 (fun q => .bool (lat q))) (fun iv _ => 9 - (intOf iv).toNat)
      case atStart => exact ⟨0, Nat.zero_le _, rfl, P10.out, R10.out⟩
      case round =>
      obtain ⟨i, hi, rfl, hP, hrow⟩ := hrel
      have P11 := Lib.hid hP
      have R11 := Lib.hid hrow
      clear hP hrow P10 R10
      by_cases hi9 : i < 9
      · have hiI : (i : Int) < 9 := by omega
        have hi0 : (0 : Int) ≤ (i : Int) := by omega
        have HPR := Lib.hid (pin_read P11.out.pr.pin GP.out (i : Int))
        rw [(HRD.out i hi9).1, (HRD.out i hi9).2] at HPR
        cases hli : lat i with
        | true =>
          go_wp2_with (first
            | (go_at_call 22; refine HPR.out.mono ?_; rintro e w11 ⟨rfl, k1⟩; have P12 := Lib.hid (P11.out.below k1); have R12 := Lib.hid ((Kept.of_below (O := (· = g)) k1 (fun i hi => by subst hi; exact (P11.out.own rfl).1)).row R11.out rfl); (have d1 := R12.out.cell (i := i) hi9); rw [hli] at d1; clear k1)
            | fail)
          go_roundw
          case rel => exact ⟨i + 1, by omega, by go_num, P12.out, R12.out⟩
          case measure => simp [intOf]; omega
        | false =>
          rw [HK4.out i hli] at HPR
          go_wp2_with (first
            | (go_at_call 22; refine HPR.out.mono ?_; rintro e w11 ⟨rfl, k1⟩; have P12 := Lib.hid (P11.out.below k1); have R12 := Lib.hid ((Kept.of_below (O := (· = g)) k1 (fun i hi => by subst hi; exact (P11.out.own rfl).1)).row R11.out rfl); (have d1 := R12.out.cell (i := i) hi9); rw [hli] at d1; (obtain ⟨⟨A, cp, e0, hget⟩, -, -⟩ := P12.out.pr.cells); rw [HL7.out] at e0; (obtain ⟨gs, rfl, e1⟩ := hget i _ (get_getD (by rw [HL7.out]; exact hi9))); clear k1 hget)
            | fail)
          go_roundw
          case rel => exact ⟨i + 1, by omega, by go_num, P12.out, R12.out⟩
          case measure => simp [intOf]; omega
      · have hiI : ¬ ((i : Int) < 9) := by omega
        go_wp2_with fail
        go_ret
        exact ⟨rfl, P11.out.bel⟩
end Go.Proofs.Ytodllmgcoclnmaa
