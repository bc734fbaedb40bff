/-
  ExtentScript, walked.
-/
import Derived.Test.YtlffgfkcgldekaaBr
namespace Go.Proofs.Ytlffgfkcgldekaa
open Go.RowKit

set_option maxRecDepth 100000 in
set_option maxHeartbeats 16000000 in
theorem script_any (n0 : Int) (A : Option Addr) (n c : Nat) (st : Nat → Stp) (at' : Int) (w : World) (hS : Steps w A n st) (hn : n ≤ 9223372036854775807) :
    Calls Try.prog 3 #[.int .i64 n0, .slice A n c, .int .i64 at'] w fun e w' => e = .returned (.bool true) ∧ Below w.heap.size w w' := by
  have HS := Lib.hid hS
  have HN := Lib.hid (fun w => new_any n0 w)
  have HNR := Lib.hid (fun w => rnew_any n0 w)
  have GF := Lib.hid (Good.fresh n0)
  have HSH := Lib.hid (fun W (hW : Below w.heap.size w W) => (shown_any W).mono fun _ _ ⟨he, hb⟩ => And.intro he (hW.trans (hb.mono hW.size)))
  clear hS
  by_cases hbig : 100 < n
  · have hbI : (100 : Int) < (n : Int) := by omega
    go_enter Try.func3, Try.ntmps3
    go_wp2
    go_ret
    exact ⟨rfl, Below.refl _ _⟩
  have hbI : ¬ (100 < (n : Int)) := by omega
  go_enter Try.func3, Try.ntmps3
  go_wp2_with fail
  go_at_call 9
  refine (HN.out _).mono ?_
  rintro e w1 ⟨rfl, k1⟩
  have P1 := Lib.hid (PIO.start (Below.refl _ w) k1)
  clear k1 HN
  generalize w.heap.size + 1 = b at P1
  go_wp2_with fail
  go_at_call 10
  refine (HNR.out _).mono ?_
  rintro e w2 ⟨rfl, k1⟩
  have P2 := Lib.hid (PRO.start P1.out k1)
  clear k1 HNR P1
  generalize w1.heap.size + 1 = r at P2
  generalize fresh n0 = s0 at P2 GF
  have hn0 := GF.out.hi
  go_wp2_with (first
    | (go_at_call 11; (with_reducible refine (po_free P2.out GF.out).mono ?_); rintro e w3 ⟨rfl, hb⟩; have P3 := Lib.hid (P2.out.below hb); clear hb)
    | (go_at_call 12; (with_reducible refine (ro_free P3.out hn0).mono ?_); rintro e w4 ⟨rfl, rfl⟩; have P4 := Lib.hid (BR.lit P3.out))
    | fail)
  go_loopw [9, 10] (fun gv iv wr => ∃ (k : Nat) (s : St) (H : List Rg), k ≤ n ∧ iv = .int .i64 k ∧ BR w wr b r s s w.heap.size gv H [] ∧ Good s ∧ H.length ≤ k) (fun _ iv _ => n - (intOf iv).toNat)
  case atStart => exact ⟨0, s0, [], Nat.zero_le _, rfl, P4.out, GF.out, Nat.le_refl _⟩
  case round =>
    obtain ⟨k, s, H, hk, rfl, hB, hG, hlen⟩ := hrel
    have B3 := Lib.hid hB
    have G3 := Lib.hid hG
    obtain ⟨B0, dd, rfl, hdd, hrd⟩ := hB.2.1.rd
    obtain ⟨m, hmm⟩ : ∃ m, H.length = m := ⟨_, rfl⟩
    rw [hmm] at hdd ⊢
    have B4 := B3.out
    rw [hmm] at B4
    have B4 := Lib.hid B4
    have HMM := Lib.hid hmm
    have hlm : m ≤ k := by omega
    have RD3 := Lib.hid hrd
    clear hB hG hrd hmm hlen B3 GF P2 P3 P4
    by_cases hlt : k < n
    · have hlI : (k : Int) < (n : Int) := by omega
      have hk0 : (0 : Int) ≤ (k : Int) := by omega
      have hmI : (0 : Int) ≤ (m : Int) := by omega
      obtain ⟨ab, off, rfl, hat0⟩ := HS.out k hlt
      obtain ⟨c0, c1, c2, c3⟩ := hat0.below B4.out.bel hat0.lt
      clear hat0
      generalize st k = o at c0 c1 c2 c3
      obtain ⟨ok, on, ⟨of, ot⟩⟩ := o
      replace c0 : wr.cell? ⟨ab, off + k * 4, none⟩ = some (.int .i64 ok) := c0
      replace c1 : wr.cell? ⟨ab, off + k * 4 + 1, none⟩ = some (.int .i64 on) := c1
      replace c2 : wr.cell? ⟨ab, off + k * 4 + 2, none⟩ = some (.int .i64 of) := c2
      replace c3 : wr.cell? ⟨ab, off + k * 4 + 3, none⟩ = some (.int .i64 ot) := c3
      have B5 := Lib.hid (B4.out.add (SB wr.heap.size ok on of ot).2)
      by_cases x0 : ok = 0
      · subst x0
        have hn5 := G3.out.hi
        have HA := Lib.hid (fun W X (h : BR w W b r s s w.heap.size (.slice B0 m dd) H X) => bp_alloc h G3.out on)
        have HB := Lib.hid (fun W s1 X (h : BR w W b r s1 s w.heap.size (.slice B0 m dd) H X) => br_alloc h hn5 on)
        have G4 := Lib.hid (G3.out.alloc on)
        generalize allocS s on = s4 at HA HB G4
        generalize allocE s on = ea at HA HB
        generalize allocR s on = ra at HA HB
        obtain ⟨raf, rat⟩ := ra
        have hq := fun a b w => range_sameN a b w
        by_cases he : ea = 0
        · subst he
          go_wp2_with fail
          go_at_call 13
          (with_reducible refine (HA.out _ _ B5.out).mono ?_)
          rintro e w4 ⟨rfl, hB⟩
          obtain ⟨z1, z2, z3⟩ := hB.stp (n := wr.heap.size) (List.mem_cons_self ..)
          have hz4 : wr.heap.size < w4.heap.size := World.block_lt_of_cell? _ _ z1
          have B6 := Lib.hid (hB.add (GB w4.heap.size raf rat).2)
          clear hB
          go_wp2_with fail
          go_at_call 14
          (with_reducible refine (HB.out _ _ _ B6.out).mono ?_)
          rintro e w5 ⟨rfl, hB⟩
          obtain ⟨y0, y1⟩ := hB.rng (n := w4.heap.size) (List.mem_cons_self ..)
          have B7 := Lib.hid (hB.add (GB w5.heap.size raf rat).2).drop
          have hsz : w4.heap.size < w5.heap.size := World.block_lt_of_cell? _ _ y0
          clear hB
          have BW := Lib.hid (B7.out.below ((Below.refl _ _).alloc (Nat.le_refl _) (.cells #[.int .i64 raf, .int .i64 rat] 30)))
          have SR := Lib.hid (srcs_new' (w := w5.alloc (.cells #[.int .i64 raf, .int .i64 rat] 30)) (N := w5.heap.size + 1) (by simp) ⟨raf, rat⟩ 1 30)
          obtain ⟨m1, hm1⟩ : ∃ m1, m + 1 = m1 := ⟨_, rfl⟩
          have hm1k : m1 ≤ k + 1 := by omega
          have L9 := Lib.hid (show (H ++ [⟨raf, rat⟩] : List Rg).length = m1 from by rw [List.length_append, HMM.out]; exact hm1)
          clear hm1
          have hn4 := G4.out.hi
          have hlr := runs_length G4.out
          go_wp2_with (first
            | (at_builtin; refine wpList_own (w0 := w) (L := m1) (lm := H ++ [⟨raf, rat⟩]) rfl (.tmp 71) (.tmp 73) rfl BW.out.2.1 BW.out.bel SR.out (by simp) (by omega) rfl L9.out ?_; intro g4 cap4 w9 hA hB2 hg hv; have B9 := Lib.hid (BW.out.grow hA hg (own_of hv)); clear hA hB2 hg hv)
            | (go_at_call 20; (with_reducible refine (bp_list B9.out G4.out).mono ?_); rintro e wl ⟨⟨u, rfl, hu⟩, hb⟩; have BL := Lib.hid (B9.out.below hb); have OU := Lib.hid hu; clear hu hb)
            | (go_at_call 21; (with_reducible refine (br_list BL.out hn4).mono ?_); rintro e wm ⟨⟨u2, rfl, hu⟩, hb⟩; have BM := Lib.hid (BL.out.below hb); have HU := Lib.hid (same_any (runs s4) _ _ _ _ _ (OU.out.below hb) hu hlr); clear hu hb)
            | (go_at_call 19; (with_reducible refine HU.out.mono ?_); rintro e wn ⟨rfl, hd⟩; have BN := Lib.hid (BM.out.below (hd.below (Below.refl _ _))); clear hd)
            | (go_at_call 11; (with_reducible refine (bp_free BN.out G4.out).mono ?_); rintro e wo ⟨rfl, hb⟩; have BO := Lib.hid (BN.out.below hb); clear hb)
            | (go_at_call 12; (with_reducible refine (br_free BO.out hn4).mono ?_); rintro e wp ⟨rfl, rfl⟩)
            | (go_at_call 22; (with_reducible refine (bp_is BO.out G4.out at').mono ?_); rintro e wq ⟨rfl, hb⟩; have BP := Lib.hid (BO.out.below hb); clear hb)
            | (go_at_call 23; (with_reducible refine (br_is BP.out G4.out at').mono ?_); rintro e ws ⟨rfl, rfl⟩)
            | fail)
          go_roundw
          case rel => exact ⟨k + 1, s4, H ++ [⟨raf, rat⟩], by omega, by go_num, BP.out.drop, G4.out, by have := L9.out; omega⟩
          case measure => simp [intOf]; omega
        · have he2 : (ea == 0) = false := by simpa using he
          go_wp2_with fail
          go_at_call 13
          (with_reducible refine (HA.out _ _ B5.out).mono ?_)
          rintro e w4 ⟨rfl, hB⟩
          obtain ⟨z1, z2, z3⟩ := hB.stp (n := wr.heap.size) (List.mem_cons_self ..)
          have hz4 : wr.heap.size < w4.heap.size := World.block_lt_of_cell? _ _ z1
          have B6 := Lib.hid (hB.add (GB w4.heap.size raf rat).2)
          clear hB
          go_wp2_with fail
          go_at_call 14
          (with_reducible refine (HB.out _ _ _ B6.out).mono ?_)
          rintro e w5 ⟨rfl, hB⟩
          obtain ⟨y0, y1⟩ := hB.rng (n := w4.heap.size) (List.mem_cons_self ..)
          have B7 := Lib.hid (hB.add (GB w5.heap.size raf rat).2)
          have hsz : w4.heap.size < w5.heap.size := World.block_lt_of_cell? _ _ y0
          clear hB
          have hn4 := G4.out.hi
          have hlr := runs_length G4.out
          go_wp2_with (first
            | (go_at_call 20; (with_reducible refine (bp_list B7.out G4.out).mono ?_); rintro e wl ⟨⟨u, rfl, hu⟩, hb⟩; have BL := Lib.hid (B7.out.below hb); have OU := Lib.hid hu; clear hu hb)
            | (go_at_call 21; (with_reducible refine (br_list BL.out hn4).mono ?_); rintro e wm ⟨⟨u2, rfl, hu⟩, hb⟩; have BM := Lib.hid (BL.out.below hb); have HU := Lib.hid (same_any (runs s4) _ _ _ _ _ (OU.out.below hb) hu hlr); clear hu hb)
            | (go_at_call 19; (with_reducible refine HU.out.mono ?_); rintro e wn ⟨rfl, hd⟩; have BN := Lib.hid (BM.out.below (hd.below (Below.refl _ _))); clear hd)
            | (go_at_call 11; (with_reducible refine (bp_free BN.out G4.out).mono ?_); rintro e wo ⟨rfl, hb⟩; have BO := Lib.hid (BN.out.below hb); clear hb)
            | (go_at_call 12; (with_reducible refine (br_free BO.out hn4).mono ?_); rintro e wp ⟨rfl, rfl⟩)
            | (go_at_call 22; (with_reducible refine (bp_is BO.out G4.out at').mono ?_); rintro e wq ⟨rfl, hb⟩; have BP := Lib.hid (BO.out.below hb); clear hb)
            | (go_at_call 23; (with_reducible refine (br_is BP.out G4.out at').mono ?_); rintro e ws ⟨rfl, rfl⟩)
            | fail)
          go_roundw
          case rel => exact ⟨k + 1, s4, H, by omega, by go_num, BP.out.drop, G4.out, by have := HMM.out; omega⟩
          case measure => simp [intOf]; omega
      by_cases x1 : ok = 1
      · subst x1
        have hn5 := G3.out.hi
        have HA := Lib.hid (fun W X (h : BR w W b r s s w.heap.size (.slice B0 m dd) H X) => bp_take h G3.out ⟨of, ot⟩)
        have HB := Lib.hid (fun W s1 X (h : BR w W b r s1 s w.heap.size (.slice B0 m dd) H X) => br_take h hn5 ⟨of, ot⟩)
        have G4 := Lib.hid (G3.out.take ⟨of, ot⟩)
        generalize takeS s ⟨of, ot⟩ = s4 at HA HB G4
        generalize takeE s ⟨of, ot⟩ = ea at HA HB
        replace B5 : Hid (BR w (wr.alloc (.cells #[.int .i64 1, .int .i64 on, .int .i64 of, .int .i64 ot] 32)) b r s s w.heap.size (.slice B0 m dd) H [SB wr.heap.size 1 on of ot]) := B5
        generalize hkk : wr.heap.size = kk at B5
        go_wp2_with fail
        generalize wr.alloc (.cells #[.int .i64 1, .int .i64 on, .int .i64 of, .int .i64 ot] 32) = wa at B5 ⊢
        clear hkk
        have Qd := Lib.hid (B5.out.below ((Below.refl _ _).drew))
        go_region_held3 (fun w' => w'.cell? ⟨kk, 2, none⟩ = some (.int .i64 of) ∧ w'.cell? ⟨kk, 3, none⟩ = some (.int .i64 ot))
          (first | exact (Qd.out.stp (List.mem_cons_self ..)).2 | exact (Qe.out.stp (List.mem_cons_self ..)).2 | exact (Q5.out.stp (List.mem_cons_self ..)).2 | fail)
          (first
            | (go_at_call 15; refine (HA.out _ _ Qd.out).mono ?_; rintro e w4 ⟨rfl, k1⟩; have Qe := Lib.hid k1; clear k1)
            | (go_at_call 16; refine (HB.out _ _ _ Qe.out).mono ?_; rintro e w5 ⟨rfl, k1⟩; have Q5 := Lib.hid k1; clear k1)
            | fail)
        clear HA HB
        have hn4 := G4.out.hi
        have hlr := runs_length G4.out
        go_wp2_with (first
          | (go_at_call 20; (with_reducible refine (bp_list Q5.out G4.out).mono ?_); rintro e wl ⟨⟨u, rfl, hu⟩, hb⟩; have BL := Lib.hid (Q5.out.below hb); have OU := Lib.hid hu; clear hu hb)
          | (go_at_call 21; (with_reducible refine (br_list BL.out hn4).mono ?_); rintro e wm ⟨⟨u2, rfl, hu⟩, hb⟩; have BM := Lib.hid (BL.out.below hb); have HU := Lib.hid (same_any (runs s4) _ _ _ _ _ (OU.out.below hb) hu hlr); clear hu hb)
          | (go_at_call 19; (with_reducible refine HU.out.mono ?_); rintro e wn ⟨rfl, hd⟩; have BN := Lib.hid (BM.out.below (hd.below (Below.refl _ _))); clear hd)
          | (go_at_call 11; (with_reducible refine (bp_free BN.out G4.out).mono ?_); rintro e wo ⟨rfl, hb⟩; have BO := Lib.hid (BN.out.below hb); clear hb)
          | (go_at_call 12; (with_reducible refine (br_free BO.out hn4).mono ?_); rintro e wp ⟨rfl, rfl⟩)
          | (go_at_call 22; (with_reducible refine (bp_is BO.out G4.out at').mono ?_); rintro e wq ⟨rfl, hb⟩; have BP := Lib.hid (BO.out.below hb); clear hb)
          | (go_at_call 23; (with_reducible refine (br_is BP.out G4.out at').mono ?_); rintro e ws ⟨rfl, rfl⟩)
          | fail)
        go_roundw
        case rel => exact ⟨k + 1, s4, H, by omega, by go_num, BP.out.drop, G4.out, by have := HMM.out; omega⟩
        case measure => simp [intOf]; omega
      by_cases x2 : ok = 2
      · subst x2
        have hn5 := G3.out.hi
        have HA := Lib.hid (fun W X (h : BR w W b r s s w.heap.size (.slice B0 m dd) H X) => bp_give h G3.out ⟨of, ot⟩)
        have HB := Lib.hid (fun W s1 X (h : BR w W b r s1 s w.heap.size (.slice B0 m dd) H X) => br_give h hn5 ⟨of, ot⟩)
        have G4 := Lib.hid (G3.out.give ⟨of, ot⟩)
        generalize giveS s ⟨of, ot⟩ = s4 at HA HB G4
        generalize giveE s ⟨of, ot⟩ = ea at HA HB
        replace B5 : Hid (BR w (wr.alloc (.cells #[.int .i64 2, .int .i64 on, .int .i64 of, .int .i64 ot] 32)) b r s s w.heap.size (.slice B0 m dd) H [SB wr.heap.size 2 on of ot]) := B5
        generalize hkk : wr.heap.size = kk at B5
        go_wp2_with fail
        generalize wr.alloc (.cells #[.int .i64 2, .int .i64 on, .int .i64 of, .int .i64 ot] 32) = wa at B5 ⊢
        clear hkk
        have Qd := Lib.hid (B5.out.below ((Below.refl _ _).drew))
        go_region_held3 (fun w' => w'.cell? ⟨kk, 2, none⟩ = some (.int .i64 of) ∧ w'.cell? ⟨kk, 3, none⟩ = some (.int .i64 ot))
          (first | exact (Qd.out.stp (List.mem_cons_self ..)).2 | exact (Qe.out.stp (List.mem_cons_self ..)).2 | exact (Q5.out.stp (List.mem_cons_self ..)).2 | fail)
          (first
            | (go_at_call 17; refine (HA.out _ _ Qd.out).mono ?_; rintro e w4 ⟨rfl, k1⟩; have Qe := Lib.hid k1; clear k1)
            | (go_at_call 18; refine (HB.out _ _ _ Qe.out).mono ?_; rintro e w5 ⟨rfl, k1⟩; have Q5 := Lib.hid k1; clear k1)
            | fail)
        clear HA HB
        have hn4 := G4.out.hi
        have hlr := runs_length G4.out
        go_wp2_with (first
          | (go_at_call 20; (with_reducible refine (bp_list Q5.out G4.out).mono ?_); rintro e wl ⟨⟨u, rfl, hu⟩, hb⟩; have BL := Lib.hid (Q5.out.below hb); have OU := Lib.hid hu; clear hu hb)
          | (go_at_call 21; (with_reducible refine (br_list BL.out hn4).mono ?_); rintro e wm ⟨⟨u2, rfl, hu⟩, hb⟩; have BM := Lib.hid (BL.out.below hb); have HU := Lib.hid (same_any (runs s4) _ _ _ _ _ (OU.out.below hb) hu hlr); clear hu hb)
          | (go_at_call 19; (with_reducible refine HU.out.mono ?_); rintro e wn ⟨rfl, hd⟩; have BN := Lib.hid (BM.out.below (hd.below (Below.refl _ _))); clear hd)
          | (go_at_call 11; (with_reducible refine (bp_free BN.out G4.out).mono ?_); rintro e wo ⟨rfl, hb⟩; have BO := Lib.hid (BN.out.below hb); clear hb)
          | (go_at_call 12; (with_reducible refine (br_free BO.out hn4).mono ?_); rintro e wp ⟨rfl, rfl⟩)
          | (go_at_call 22; (with_reducible refine (bp_is BO.out G4.out at').mono ?_); rintro e wq ⟨rfl, hb⟩; have BP := Lib.hid (BO.out.below hb); clear hb)
          | (go_at_call 23; (with_reducible refine (br_is BP.out G4.out at').mono ?_); rintro e ws ⟨rfl, rfl⟩)
          | fail)
        go_roundw
        case rel => exact ⟨k + 1, s4, H, by omega, by go_num, BP.out.drop, G4.out, by have := HMM.out; omega⟩
        case measure => simp [intOf]; omega
      by_cases x3 : ok = 3
      · subst x3
        by_cases hon : on < 0
        · have hd1 : ¬ 0 ≤ on := by omega
          have hd2 : decide (0 ≤ on) = false := by simpa using hd1
          go_wp2_with fail
          go_quiet (fail)
          have B6 := Lib.hid (B5.out.below (below_drewN (Below.refl _ _) nq))
          have hn4 := G3.out.hi
          have hlr := runs_length G3.out
          go_wp2_with (first
            | (go_at_call 20; (with_reducible refine (bp_list B6.out G3.out).mono ?_); rintro e wl ⟨⟨u, rfl, hu⟩, hb⟩; have BL := Lib.hid (B6.out.below hb); have OU := Lib.hid hu; clear hu hb)
            | (go_at_call 21; (with_reducible refine (br_list BL.out hn4).mono ?_); rintro e wm ⟨⟨u2, rfl, hu⟩, hb⟩; have BM := Lib.hid (BL.out.below hb); have HU := Lib.hid (same_any (runs s) _ _ _ _ _ (OU.out.below hb) hu hlr); clear hu hb)
            | (go_at_call 19; (with_reducible refine HU.out.mono ?_); rintro e wn ⟨rfl, hd⟩; have BN := Lib.hid (BM.out.below (hd.below (Below.refl _ _))); clear hd)
            | (go_at_call 11; (with_reducible refine (bp_free BN.out G3.out).mono ?_); rintro e wo ⟨rfl, hb⟩; have BO := Lib.hid (BN.out.below hb); clear hb)
            | (go_at_call 12; (with_reducible refine (br_free BO.out hn4).mono ?_); rintro e wp ⟨rfl, rfl⟩)
            | (go_at_call 22; (with_reducible refine (bp_is BO.out G3.out at').mono ?_); rintro e wq ⟨rfl, hb⟩; have BP := Lib.hid (BO.out.below hb); clear hb)
            | (go_at_call 23; (with_reducible refine (br_is BP.out G3.out at').mono ?_); rintro e ws ⟨rfl, rfl⟩)
            | fail)
          go_roundw
          case rel => exact ⟨k + 1, s, H, by omega, by go_num, BP.out.drop, G3.out, by have := HMM.out; omega⟩
          case measure => simp [intOf]; omega
        · have hd1 : 0 ≤ on := by omega
          have hd2 : decide (0 ≤ on) = true := by simpa using hd1
          by_cases hom : on < (m : Int)
          · have hd3 : decide (on < (m : Int)) = true := by simpa using hom
            obtain ⟨q, hqe⟩ : ∃ q : Nat, on.toNat = q := ⟨_, rfl⟩
            obtain rfl : on = (q : Int) := by omega
            clear hqe
            have hqm : q < m := by omega
            obtain ⟨⟨qf, qt⟩, hx⟩ := ex_get (l := H) (k := q) (by rw [HMM.out]; exact hqm)
            obtain ⟨gl, rfl, -, -⟩ := RD3.out q _ hx
            have hn5 := G3.out.hi
            have HA := Lib.hid (fun W X (h : BR w W b r s s w.heap.size (.slice (some ⟨gl, 0, none⟩) m dd) H X) => bp_give h G3.out ⟨qf, qt⟩)
            have HB := Lib.hid (fun W s1 X (h : BR w W b r s1 s w.heap.size (.slice (some ⟨gl, 0, none⟩) m dd) H X) => br_give h hn5 ⟨qf, qt⟩)
            have G4 := Lib.hid (G3.out.give ⟨qf, qt⟩)
            have HX := Lib.hid hx
            generalize giveS s ⟨qf, qt⟩ = s4 at HA HB G4
            generalize giveE s ⟨qf, qt⟩ = ea at HA HB
            clear hx
            replace B5 : Hid (BR w (wr.alloc (.cells #[.int .i64 3, .int .i64 (q : Int), .int .i64 of, .int .i64 ot] 32)) b r s s w.heap.size (.slice (some ⟨gl, 0, none⟩) m dd) H [SB wr.heap.size 3 q of ot]) := B5
            generalize hkk : wr.heap.size = kk at B5
            go_wp2_with fail
            generalize wr.alloc (.cells #[.int .i64 3, .int .i64 (q : Int), .int .i64 of, .int .i64 ot] 32) = wa at B5 ⊢
            clear hkk
            have Qd := Lib.hid (B5.out.below ((Below.refl _ _).drew))
            have hq0 : (0 : Int) ≤ (q : Int) := by omega
            have hqd : q ≤ dd := by omega
            go_region_held3 (fun w' => w'.cell? ⟨kk, 1, none⟩ = some (.int .i64 (q : Int)) ∧ w'.cell? ⟨gl, q * 2, none⟩ = some (.int .i64 qf) ∧ w'.cell? ⟨gl, q * 2 + 1, none⟩ = some (.int .i64 qt))
              (first | exact ⟨(Qd.out.stp (List.mem_cons_self ..)).1, Qd.out.got HX.out⟩ | exact ⟨(Qe.out.stp (List.mem_cons_self ..)).1, Qe.out.got HX.out⟩ | exact ⟨(Q5.out.stp (List.mem_cons_self ..)).1, Q5.out.got HX.out⟩ | fail)
              (first
                | (go_at_call 17; refine (HA.out _ _ Qd.out).mono ?_; rintro e w4 ⟨rfl, k1⟩; have Qe := Lib.hid k1; clear k1)
                | (go_at_call 18; refine (HB.out _ _ _ Qe.out).mono ?_; rintro e w5 ⟨rfl, k1⟩; have Q5 := Lib.hid k1; clear k1)
                | fail)
            clear HA HB
            have hn4 := G4.out.hi
            have hlr := runs_length G4.out
            go_wp2_with (first
              | (go_at_call 20; (with_reducible refine (bp_list Q5.out G4.out).mono ?_); rintro e wl ⟨⟨u, rfl, hu⟩, hb⟩; have BL := Lib.hid (Q5.out.below hb); have OU := Lib.hid hu; clear hu hb)
              | (go_at_call 21; (with_reducible refine (br_list BL.out hn4).mono ?_); rintro e wm ⟨⟨u2, rfl, hu⟩, hb⟩; have BM := Lib.hid (BL.out.below hb); have HU := Lib.hid (same_any (runs s4) _ _ _ _ _ (OU.out.below hb) hu hlr); clear hu hb)
              | (go_at_call 19; (with_reducible refine HU.out.mono ?_); rintro e wn ⟨rfl, hd⟩; have BN := Lib.hid (BM.out.below (hd.below (Below.refl _ _))); clear hd)
              | (go_at_call 11; (with_reducible refine (bp_free BN.out G4.out).mono ?_); rintro e wo ⟨rfl, hb⟩; have BO := Lib.hid (BN.out.below hb); clear hb)
              | (go_at_call 12; (with_reducible refine (br_free BO.out hn4).mono ?_); rintro e wp ⟨rfl, rfl⟩)
              | (go_at_call 22; (with_reducible refine (bp_is BO.out G4.out at').mono ?_); rintro e wq ⟨rfl, hb⟩; have BP := Lib.hid (BO.out.below hb); clear hb)
              | (go_at_call 23; (with_reducible refine (br_is BP.out G4.out at').mono ?_); rintro e ws ⟨rfl, rfl⟩)
              | fail)
            go_roundw
            case rel => exact ⟨k + 1, s4, H, by omega, by go_num, BP.out.drop, G4.out, by have := HMM.out; omega⟩
            case measure => simp [intOf]; omega
          · have hd3 : decide (on < (m : Int)) = false := by simpa using hom
            go_wp2_with fail
            go_quiet (fail)
            have B6 := Lib.hid (B5.out.below (below_drewN (Below.refl _ _) nq))
            have hn4 := G3.out.hi
            have hlr := runs_length G3.out
            go_wp2_with (first
              | (go_at_call 20; (with_reducible refine (bp_list B6.out G3.out).mono ?_); rintro e wl ⟨⟨u, rfl, hu⟩, hb⟩; have BL := Lib.hid (B6.out.below hb); have OU := Lib.hid hu; clear hu hb)
              | (go_at_call 21; (with_reducible refine (br_list BL.out hn4).mono ?_); rintro e wm ⟨⟨u2, rfl, hu⟩, hb⟩; have BM := Lib.hid (BL.out.below hb); have HU := Lib.hid (same_any (runs s) _ _ _ _ _ (OU.out.below hb) hu hlr); clear hu hb)
              | (go_at_call 19; (with_reducible refine HU.out.mono ?_); rintro e wn ⟨rfl, hd⟩; have BN := Lib.hid (BM.out.below (hd.below (Below.refl _ _))); clear hd)
              | (go_at_call 11; (with_reducible refine (bp_free BN.out G3.out).mono ?_); rintro e wo ⟨rfl, hb⟩; have BO := Lib.hid (BN.out.below hb); clear hb)
              | (go_at_call 12; (with_reducible refine (br_free BO.out hn4).mono ?_); rintro e wp ⟨rfl, rfl⟩)
              | (go_at_call 22; (with_reducible refine (bp_is BO.out G3.out at').mono ?_); rintro e wq ⟨rfl, hb⟩; have BP := Lib.hid (BO.out.below hb); clear hb)
              | (go_at_call 23; (with_reducible refine (br_is BP.out G3.out at').mono ?_); rintro e ws ⟨rfl, rfl⟩)
              | fail)
            go_roundw
            case rel => exact ⟨k + 1, s, H, by omega, by go_num, BP.out.drop, G3.out, by have := HMM.out; omega⟩
            case measure => simp [intOf]; omega
      have d0 : (ok == 0) = false := by simpa using x0
      have d1 : (ok == 1) = false := by simpa using x1
      have d2 : (ok == 2) = false := by simpa using x2
      have d3 : (ok == 3) = false := by simpa using x3
      have hn4 := G3.out.hi
      have hlr := runs_length G3.out
      go_wp2_with (first
        | (go_at_call 20; (with_reducible refine (bp_list B5.out G3.out).mono ?_); rintro e wl ⟨⟨u, rfl, hu⟩, hb⟩; have BL := Lib.hid (B5.out.below hb); have OU := Lib.hid hu; clear hu hb)
        | (go_at_call 21; (with_reducible refine (br_list BL.out hn4).mono ?_); rintro e wm ⟨⟨u2, rfl, hu⟩, hb⟩; have BM := Lib.hid (BL.out.below hb); have HU := Lib.hid (same_any (runs s) _ _ _ _ _ (OU.out.below hb) hu hlr); clear hu hb)
        | (go_at_call 19; (with_reducible refine HU.out.mono ?_); rintro e wn ⟨rfl, hd⟩; have BN := Lib.hid (BM.out.below (hd.below (Below.refl _ _))); clear hd)
        | (go_at_call 11; (with_reducible refine (bp_free BN.out G3.out).mono ?_); rintro e wo ⟨rfl, hb⟩; have BO := Lib.hid (BN.out.below hb); clear hb)
        | (go_at_call 12; (with_reducible refine (br_free BO.out hn4).mono ?_); rintro e wp ⟨rfl, rfl⟩)
        | (go_at_call 22; (with_reducible refine (bp_is BO.out G3.out at').mono ?_); rintro e wq ⟨rfl, hb⟩; have BP := Lib.hid (BO.out.below hb); clear hb)
        | (go_at_call 23; (with_reducible refine (br_is BP.out G3.out at').mono ?_); rintro e ws ⟨rfl, rfl⟩)
        | fail)
      go_roundw
      case rel => exact ⟨k + 1, s, H, by omega, by go_num, BP.out.drop, G3.out, by have := HMM.out; omega⟩
      case measure => simp [intOf]; omega
    · have hlI : ¬ ((k : Int) < (n : Int)) := by omega
      go_wp2_with (go_at_call 24; (with_reducible refine (HSH.out _ B4.out.bel).mono ?_); rintro e w7 ⟨rfl, hb⟩; have P7 := Lib.hid hb; clear hb)
      go_ret
      exact ⟨rfl, P7.out⟩
end Go.Proofs.Ytlffgfkcgldekaa
