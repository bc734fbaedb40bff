/-
  ExtentBack, walked.
-/
import Derived.Test.YtlffgfkcgldekaaBk
namespace Go.Proofs.Ytlffgfkcgldekaa
open Go.RowKit


set_option maxRecDepth 100000 in
set_option maxHeartbeats 16000000 in
theorem back_any (A : Option Addr) (n c : Nat) (st : Nat → Stp) (r : Rg) (ki : Int) (w : World) (hS : Steps w A n st) (hn : n ≤ 9223372036854775807) :
    Calls Try.prog 4 #[.slice A n c, .agg #[.int .i64 r.f, .int .i64 r.t], .int .i64 ki] w fun e w' => e = .returned (.bool true) ∧ Below w.heap.size w w' := by
  have HS := Lib.hid hS
  have hbx : Below w.heap.size w (w.alloc (.cells #[.int .i64 r.f, .int .i64 r.t] 30)) := (Below.refl _ _).alloc (Nat.le_refl _) _
  have HBX := Lib.hid hbx
  have HN := Lib.hid (fun w => new_any 200 w)
  have HSH := Lib.hid (fun W (hW : Below w.heap.size w W) => (shown_any W).mono fun _ _ ⟨he, hb⟩ => And.intro he (hW.trans (hb.mono hW.size)))
  clear hS hbx
  by_cases hbig : 100 < n
  · have hbI : (100 : Int) < (n : Int) := by omega
    go_enter Try.func4, Try.ntmps4
    go_wp2
    go_ret
    exact ⟨rfl, HBX.out⟩
  have hbI : ¬ (100 < (n : Int)) := by omega
  go_enter Try.func4, Try.ntmps4
  go_wp2_with fail
  go_at_call 9
  refine (HN.out _).mono ?_
  rintro e w1 ⟨rfl, k1⟩
  obtain ⟨p1, q1⟩ := PIO.startO (O := fun k => k = w.heap.size) HBX.out k1 (fun k hk => by subst hk; simp)
  have P1 := Lib.hid p1
  have R1 := Lib.hid ((Rb.new w r).kept q1 rfl)
  clear k1 HN p1 q1
  rw [World.size_alloc] at P1 ⊢
  generalize w.heap.size + 1 + 1 = b at P1 ⊢
  go_wp2_with fail
  go_loopw [8] (fun iv wr => ∃ (k : Nat) (s : St), k ≤ n ∧ iv = .int .i64 k ∧ PIO w wr b s (fun k => k = w.heap.size) ∧ Good s ∧ s.n = 200 ∧ Rb wr w.heap.size r) (fun iv _ => n - (intOf iv).toNat)
  case atStart => exact ⟨0, fresh 200, Nat.zero_le _, rfl, P1.out, Good.fresh _, rfl, R1.out⟩
  case round =>
    obtain ⟨k, s, hk, rfl, hP, hG, hsn, hRb⟩ := hrel
    have P3 := Lib.hid hP
    have G3 := Lib.hid hG
    have N3 := Lib.hid hsn
    clear hP hG hsn
    have R3 := Lib.hid hRb; clear hRb
    by_cases hlt : k < n
    · have hlI : (k : Int) < (n : Int) := by omega
      have hk0 : (0 : Int) ≤ (k : Int) := by omega
      obtain ⟨ab, off, rfl, hat0⟩ := HS.out k hlt
      obtain ⟨c0, c1, c2, c3⟩ := hat0.below P3.out.bel hat0.lt
      clear hat0
      generalize st k = o at c0 c1 c2 c3
      obtain ⟨ok, on, ⟨of, ot⟩⟩ := o
      replace c0 : wr.cell? ⟨ab, off + k * 4, none⟩ = some (.int .i64 ok) := c0
      replace c1 : wr.cell? ⟨ab, off + k * 4 + 1, none⟩ = some (.int .i64 on) := c1
      replace c2 : wr.cell? ⟨ab, off + k * 4 + 2, none⟩ = some (.int .i64 of) := c2
      replace c3 : wr.cell? ⟨ab, off + k * 4 + 3, none⟩ = some (.int .i64 ot) := c3
      by_cases x0 : ok = 0
      · subst x0
        have HC := Lib.hid (io_alloc P3.out G3.out on)
        have G4 := Lib.hid (G3.out.alloc on)
        have N4 := Lib.hid ((allocS_n s on).trans N3.out)
        generalize allocS s on = s4 at HC G4 N4
        generalize allocR s on = ra at HC
        generalize allocE s on = ea at HC
        go_wp2_with (go_at_call 13; (with_reducible refine HC.out.mono ?_); rintro e w4 ⟨rfl, hP, hkp⟩; have P4 := Lib.hid hP; have K4 := Lib.hid hkp; clear hP hkp)
        go_roundw
        case rel => exact ⟨k + 1, s4, by omega, by go_num, P4.out, G4.out, N4.out, R3.out.kept K4.out rfl⟩
        case measure => simp [intOf]; omega
      by_cases x1 : ok = 1
      · subst x1
        have HC := Lib.hid (io_take P3.out G3.out ⟨of, ot⟩)
        have G4 := Lib.hid (G3.out.take ⟨of, ot⟩)
        have N4 := Lib.hid ((takeS_n s ⟨of, ot⟩).trans N3.out)
        generalize takeS s ⟨of, ot⟩ = s4 at HC G4 N4
        generalize takeE s ⟨of, ot⟩ = ea at HC
        go_wp2_with (go_at_call 15; (with_reducible refine HC.out.mono ?_); rintro e w4 ⟨rfl, hP, hkp⟩; have P4 := Lib.hid hP; have K4 := Lib.hid hkp; clear hP hkp)
        go_roundw
        case rel => exact ⟨k + 1, s4, by omega, by go_num, P4.out, G4.out, N4.out, R3.out.kept K4.out rfl⟩
        case measure => simp [intOf]; omega
      by_cases x2 : ok = 2
      · subst x2
        have HC := Lib.hid (io_give P3.out G3.out ⟨of, ot⟩)
        have G4 := Lib.hid (G3.out.give ⟨of, ot⟩)
        have N4 := Lib.hid ((giveS_n s ⟨of, ot⟩).trans N3.out)
        generalize giveS s ⟨of, ot⟩ = s4 at HC G4 N4
        generalize giveE s ⟨of, ot⟩ = ea at HC
        go_wp2_with (go_at_call 17; (with_reducible refine HC.out.mono ?_); rintro e w4 ⟨rfl, hP, hkp⟩; have P4 := Lib.hid hP; have K4 := Lib.hid hkp; clear hP hkp)
        go_roundw
        case rel => exact ⟨k + 1, s4, by omega, by go_num, P4.out, G4.out, N4.out, R3.out.kept K4.out rfl⟩
        case measure => simp [intOf]; omega
      have d0 : (ok == 0) = false := by simpa using x0
      have d1 : (ok == 1) = false := by simpa using x1
      have d2 : (ok == 2) = false := by simpa using x2
      go_wp2_with fail
      go_roundw
      case rel => exact ⟨k + 1, s, by omega, by go_num, P3.out, G3.out, N3.out, R3.out⟩
      case measure => simp [intOf]; omega
    · obtain rfl : n = k := by omega
      have hlI : ¬ ((n : Int) < (n : Int)) := by omega
      go_wp2_with fail
      go_at_call 20
      refine (io_list P3.out G3.out).mono ?_
      rintro e w5 ⟨⟨v, rfl, hv⟩, hb⟩
      have B5 := Lib.hid (BK.start P3.out R3.out hb hv)
      obtain ⟨z0, z1, -, -⟩ := (B5.out.2.2 (w.heap.size, r) (by simp)).cells
      clear hv hb P3 R3
      generalize wr.heap.size = base at B5
      by_cases h1 : takeE s r = 0
      · obtain ⟨t1, t2, t3, t4⟩ := take_then h1
        have GT := Lib.hid (takeF_good G3.out h1)
        obtain ⟨t5, t6⟩ := give_free (takeE_zero.1 h1).1 (takeE_zero.1 h1).2
        have HT1 := bk_take B5.out G3.out r h1 t1
        have T2 := Lib.hid t2
        have T2' := Lib.hid (takeS_no (s := set s r false) (q := r) (by omega))
        have T3 := Lib.hid t3
        have T4 := Lib.hid t4
        have T5 := Lib.hid t5
        have T6 := Lib.hid t6
        clear t1 t2 t3 t4 t5 t6 h1
        go_wp2_with fail
        go_at_call 15
        (with_reducible refine HT1.out.mono ?_)
        rintro e w6 ⟨rfl, hB⟩
        have B6 := Lib.hid hB
        obtain ⟨y0, y1, -, -⟩ := (hB.2.2 (w.heap.size, r) (by simp)).cells
        clear hB HT1
        go_wp2_with fail
        go_at_call 15
        (with_reducible refine (bk_take B6.out GT.out r T2.out T2'.out).out.mono ?_)
        rintro e w7 ⟨rfl, hB⟩
        have B7 := Lib.hid hB
        obtain ⟨x0, x1, -, -⟩ := (hB.2.2 (w.heap.size, r) (by simp)).cells
        clear hB
        go_wp2_with fail
        go_at_call 17
        (with_reducible refine (bk_give B7.out GT.out r T3.out T4.out).out.mono ?_)
        rintro e wf ⟨rfl, hB⟩
        have BF := Lib.hid hB
        obtain ⟨v0, v1, -, -⟩ := (hB.2.2 (w.heap.size, r) (by simp)).cells
        clear hB
        go_wp2_with fail
        go_at_call 17
        (with_reducible refine (bk_give BF.out G3.out r T5.out T6.out).out.mono ?_)
        rintro e wg ⟨rfl, hB⟩
        have BG := Lib.hid hB
        clear hB
        rcases alloc_cases s G3.out ki with ⟨a0, a1, a2, a3⟩ | ⟨a0, a1, f, a2, a3, a4, a5⟩
        · have HAL := bk_alloc BG.out G3.out ki rfl a2 a3
          have e1 : (allocE s ki == 0) = false := by simpa using a0
          clear a0 a1 a2 a3
          generalize allocE s ki = ev at *
          go_wp2_with fail
          go_at_call 13
          (with_reducible refine HAL.out.mono ?_)
          rintro e w8 ⟨rfl, hB⟩
          have B8 := Lib.hid (hB.add ⟨0, 0⟩)
          clear hB
          go_wp2_with (first
            | (go_at_call 20; (with_reducible refine (bk_list B8.out G3.out).out.mono ?_); rintro e wl ⟨⟨u, rfl, hu⟩, hB⟩; have HU := Lib.hid (same_any (runs s) _ _ _ _ _ hu hB.2.1 (runs_length G3.out)); have BZ := Lib.hid hB; clear hu hB)
            | (go_at_call 19; (with_reducible refine HU.out.mono ?_); rintro e wm ⟨rfl, hd⟩; have BB := Lib.hid (hd.below BZ.out.bel); clear hd)
            | (go_at_call 24; (with_reducible refine (HSH.out _ BB.out).mono ?_); rintro e wn ⟨rfl, hb⟩; have BC := Lib.hid hb; clear hb)
            | fail)
          go_ret
          exact ⟨rfl, BC.out⟩
        · have HAL := bk_alloc BG.out G3.out ki a0 a2 a5
          obtain ⟨m1, m2, m3⟩ := mayE_zero a3
          replace m1 : f < f + ki := m1
          replace m2 : 0 ≤ f := m2
          replace m3 : f + ki ≤ (s.n : Int) := m3
          have hn4 := G3.out.hi
          obtain ⟨t1, t2, t3, t4⟩ := take_then (takeE_zero.2 ⟨a3, a4⟩)
          have GA := Lib.hid (takeF_good G3.out (takeE_zero.2 ⟨a3, a4⟩))
          have T2 := Lib.hid t2
          have T2' := Lib.hid (takeS_no (s := set s ⟨f, f + ki⟩ false) (q := ⟨f, f + ki⟩) (by omega))
          have T3 := Lib.hid t3
          have T4 := Lib.hid t4
          clear a0 a2 a3 a4 a5 t1 t2 t3 t4
          have hk : f + ki - f = ki := by omega
          go_wp2_with fail
          go_at_call 13
          (with_reducible refine HAL.out.mono ?_)
          rintro e w8 ⟨rfl, hB⟩
          have B8 := Lib.hid (hB.add ⟨f, f + ki⟩)
          clear hB
          obtain ⟨z0, z1, -, -⟩ := (B8.out.2.2 (w8.heap.size, ⟨f, f + ki⟩) (by simp)).cells
          go_wp2_with (first
            | (go_at_call 15; (with_reducible refine (bk_take B8.out GA.out ⟨f, f + ki⟩ T2.out T2'.out).out.mono ?_); rintro e w9 ⟨rfl, hB⟩; have B9 := Lib.hid hB; (obtain ⟨y0, y1, -, -⟩ := (hB.2.2 (w8.heap.size, ⟨f, f + ki⟩) (by simp)).cells); clear hB)
            | (go_at_call 17; (with_reducible refine (bk_give B9.out GA.out ⟨f, f + ki⟩ T3.out T4.out).out.mono ?_); rintro e wa ⟨rfl, hB⟩; have B10 := Lib.hid hB; clear hB)
            | (go_at_call 20; (with_reducible refine (bk_list B10.out G3.out).out.mono ?_); rintro e wl ⟨⟨u, rfl, hu⟩, hB⟩; have HU := Lib.hid (same_any (runs s) _ _ _ _ _ hu hB.2.1 (runs_length G3.out)); have BZ := Lib.hid hB; clear hu hB)
            | (go_at_call 19; (with_reducible refine HU.out.mono ?_); rintro e wm ⟨rfl, hd⟩; have BB := Lib.hid (hd.below BZ.out.bel); clear hd)
            | (go_at_call 24; (with_reducible refine (HSH.out _ BB.out).mono ?_); rintro e wn ⟨rfl, hb⟩; have BC := Lib.hid hb; clear hb)
            | fail)
          go_ret
          exact ⟨rfl, BC.out⟩
      · have HT1 := bk_take B5.out G3.out r rfl (takeS_no h1)
        have e1 : (takeE s r == 0) = false := by simpa using h1
        clear h1
        generalize takeE s r = tv at *
        go_wp2_with fail
        go_at_call 15
        (with_reducible refine HT1.out.mono ?_)
        rintro e w6 ⟨rfl, hB⟩
        have B6 := Lib.hid hB
        clear hB HT1
        rcases alloc_cases s G3.out ki with ⟨a0, a1, a2, a3⟩ | ⟨a0, a1, f, a2, a3, a4, a5⟩
        · have HAL := bk_alloc B6.out G3.out ki rfl a2 a3
          have e1 : (allocE s ki == 0) = false := by simpa using a0
          clear a0 a1 a2 a3
          generalize allocE s ki = ev at *
          go_wp2_with fail
          go_at_call 13
          (with_reducible refine HAL.out.mono ?_)
          rintro e w8 ⟨rfl, hB⟩
          have B8 := Lib.hid (hB.add ⟨0, 0⟩)
          clear hB
          go_wp2_with (first
            | (go_at_call 20; (with_reducible refine (bk_list B8.out G3.out).out.mono ?_); rintro e wl ⟨⟨u, rfl, hu⟩, hB⟩; have HU := Lib.hid (same_any (runs s) _ _ _ _ _ hu hB.2.1 (runs_length G3.out)); have BZ := Lib.hid hB; clear hu hB)
            | (go_at_call 19; (with_reducible refine HU.out.mono ?_); rintro e wm ⟨rfl, hd⟩; have BB := Lib.hid (hd.below BZ.out.bel); clear hd)
            | (go_at_call 24; (with_reducible refine (HSH.out _ BB.out).mono ?_); rintro e wn ⟨rfl, hb⟩; have BC := Lib.hid hb; clear hb)
            | fail)
          go_ret
          exact ⟨rfl, BC.out⟩
        · have HAL := bk_alloc B6.out G3.out ki a0 a2 a5
          obtain ⟨m1, m2, m3⟩ := mayE_zero a3
          replace m1 : f < f + ki := m1
          replace m2 : 0 ≤ f := m2
          replace m3 : f + ki ≤ (s.n : Int) := m3
          have hn4 := G3.out.hi
          obtain ⟨t1, t2, t3, t4⟩ := take_then (takeE_zero.2 ⟨a3, a4⟩)
          have GA := Lib.hid (takeF_good G3.out (takeE_zero.2 ⟨a3, a4⟩))
          have T2 := Lib.hid t2
          have T2' := Lib.hid (takeS_no (s := set s ⟨f, f + ki⟩ false) (q := ⟨f, f + ki⟩) (by omega))
          have T3 := Lib.hid t3
          have T4 := Lib.hid t4
          clear a0 a2 a3 a4 a5 t1 t2 t3 t4
          have hk : f + ki - f = ki := by omega
          go_wp2_with fail
          go_at_call 13
          (with_reducible refine HAL.out.mono ?_)
          rintro e w8 ⟨rfl, hB⟩
          have B8 := Lib.hid (hB.add ⟨f, f + ki⟩)
          clear hB
          obtain ⟨z0, z1, -, -⟩ := (B8.out.2.2 (w8.heap.size, ⟨f, f + ki⟩) (by simp)).cells
          go_wp2_with (first
            | (go_at_call 15; (with_reducible refine (bk_take B8.out GA.out ⟨f, f + ki⟩ T2.out T2'.out).out.mono ?_); rintro e w9 ⟨rfl, hB⟩; have B9 := Lib.hid hB; (obtain ⟨y0, y1, -, -⟩ := (hB.2.2 (w8.heap.size, ⟨f, f + ki⟩) (by simp)).cells); clear hB)
            | (go_at_call 17; (with_reducible refine (bk_give B9.out GA.out ⟨f, f + ki⟩ T3.out T4.out).out.mono ?_); rintro e wa ⟨rfl, hB⟩; have B10 := Lib.hid hB; clear hB)
            | (go_at_call 20; (with_reducible refine (bk_list B10.out G3.out).out.mono ?_); rintro e wl ⟨⟨u, rfl, hu⟩, hB⟩; have HU := Lib.hid (same_any (runs s) _ _ _ _ _ hu hB.2.1 (runs_length G3.out)); have BZ := Lib.hid hB; clear hu hB)
            | (go_at_call 19; (with_reducible refine HU.out.mono ?_); rintro e wm ⟨rfl, hd⟩; have BB := Lib.hid (hd.below BZ.out.bel); clear hd)
            | (go_at_call 24; (with_reducible refine (HSH.out _ BB.out).mono ?_); rintro e wn ⟨rfl, hb⟩; have BC := Lib.hid hb; clear hb)
            | fail)
          go_ret
          exact ⟨rfl, BC.out⟩
end Go.Proofs.Ytlffgfkcgldekaa
