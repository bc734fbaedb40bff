/-
  ShelfScript, walked: it answers true, and nothing that was there turns.
-/
import Derived.Test.YtacdbfaoeioflaaGreatDoorDuoC
import Derived.BigQuiet
import Derived.Deep.LoopGhost
import Derived.Deep.CutBlock
import Derived.Deep.DeepCutAuto
namespace Go.Proofs.YtacdbfaoeioflaaGreatDoor
open Go.RowKit

set_option maxRecDepth 100000 in
set_option maxHeartbeats 8000000 in
theorem script_in (m : Nat) (A : Option Addr) (n c : Nat) (st : Nat → Stp) (w : World) (hT : Tab w) (hm : m < 256) (hS : SIn w A n st) (hn : n ≤ 9223372036854775807) :
    Calls Tryz.prog 3 #[.int .u8 m, .slice A n c] w fun e w' => e = .returned (.bool true) ∧ Below w.heap.size w w' := by
  have HB := Lib.hid hS
  have HT := Lib.hid hT
  have HSh := Lib.hid (fun w (T : Tab w) => shown_any (w := w) T)
  have HHv := Lib.hid (heavy_any (c := c) hS hn)
  have hm8 : IntKind.i64.wrap (m : Int) = (m : Int) := IntWalk.i64_in _ (by omega)
  clear hS hT
  go_enter Tryz.func3, Tryz.ntmps3
  go_wp2_with fail
  go_at_call 7
  refine HHv.out.mono ?_
  rintro e w' ⟨hv, rfl, rfl, hlim⟩
  cases hv
  case true =>
    clear hlim hn
    go_wp2_with fail
    go_at_call 8
    refine (HSh.out w HT.out).mono ?_
    rintro e w2 ⟨rfl, k1⟩
    have B2 := Lib.hid k1
    clear k1
    go_wp2
    go_ret
    exact ⟨rfl, B2.out⟩
  case false =>
  obtain ⟨hn80, hlim'⟩ := hlim rfl
  have HLim := Lib.hid hlim'
  clear hlim hlim' hn
  go_wp2_with fail
  go_at_call 8
  refine (HSh.out w HT.out).mono ?_
  rintro e w1 ⟨rfl, k1⟩
  have B1 := Lib.hid k1
  clear k1
  go_wp2_with fail
  go_at_call 9
  refine (new_any _ w1).mono ?_
  rintro e w2 ⟨rfl, hg⟩
  obtain ⟨F, k1, k2, k3⟩ := pl_new B1.out hg
  obtain ⟨pb, hpb⟩ : ∃ pb, w1.heap.size = pb := ⟨_, rfl⟩
  rw [hpb] at k1 ⊢
  have P2 := Lib.hid k1
  have F2 := Lib.hid k2
  have B2 := Lib.hid k3
  clear k1 k2 k3 hg hpb HSh
  obtain ⟨q, hq⟩ : ∃ q : Int, 4 + (m : Int) % 12 = q := ⟨_, rfl⟩
  rw [hq] at P2
  have HQ := Lib.hid hq
  clear hq
  go_wp2_with fail
  go_at_call 10
  refine (rnew_any _ w2).mono ?_
  rintro e w3 ⟨rfl, hg⟩
  obtain ⟨G, k0, k1, k2, k3, k4⟩ := pl_rnew P2.out B2.out hg
  obtain ⟨rp, hrp⟩ : ∃ rp, w2.heap.size = rp := ⟨_, rfl⟩
  rw [hrp] at k1 ⊢
  rw [HQ.out] at k1
  have P3 := Lib.hid k0
  have R3 := Lib.hid k1
  have D3 := Lib.hid k2
  have G3 := Lib.hid k3
  have B3 := Lib.hid k4
  clear k0 k1 k2 k3 k4 hg hrp P2 B2 B1
  go_wp2_with fail
  go_at_call 11
  refine (open_yes9 P3.out (Good.fresh q) rfl (n := size0 q) (by simp [fresh]) (HT.out.below B3.out) (fun e => by
    have hh : (0 : Nat) < w.heap.size := World.block_lt_of_cell? w _ (HT.out 0 (by decide))
    have := F2.out _ e; omega)).mono ?_
  rintro e w4 ⟨sb, mb, rfl, hg⟩
  obtain ⟨o1, o2⟩ := fresh_open q
  rw [o1, o2] at hg
  obtain ⟨F', k0, k1, k2, k3, k4⟩ := pl_open R3.out D3.out F2.out B3.out hg
  have S4 := Lib.hid k0
  have R4 := Lib.hid k1
  have D4 := Lib.hid k2
  have F4 := Lib.hid k3
  have B4 := Lib.hid k4
  clear k0 k1 k2 k3 k4 hg P3 R3 D3 F2 B3
  go_wp2_with fail
  go_at_call 12
  refine (ropen_yes R4.out (Good.fresh q) rfl (n := size0 q) (by simp [fresh])).mono ?_
  rintro e w5 ⟨rb, rfl, hg⟩
  rw [o1, o2] at hg
  have D5 := Lib.hid (pl_ropen S4.out D4.out F4.out G3.out B4.out hg)
  have L5 := Lib.hid (Pln.fresh q)
  have hN := (size0_in q).2
  clear hg o1 o2 S4 R4 D4 F4 B4 G3
  generalize size0 q = N at D5 L5 hN
  go_wp2
  go_loopg [7, 9, 11] n (fun gh v7 v9 iv wr => ∃ (i : Nat) (s : St) (L : Lay) (odd : List Nat) (lp lr : Bool) (k sb mb rb : Nat), i ≤ n ∧ gh = n - i ∧ iv = .int .i64 i ∧ v7 = .pointer (some ⟨sb, 0, none⟩) ∧ v9 = .pointer (some ⟨rb, 0, none⟩) ∧ Pln s L odd lp lr N k ∧ k ≤ 200 * i ∧ Duo w wr sb mb pb s L odd lp rb rp s L odd lr (fun _ => False))
  case atStart => exact ⟨0, _, _, _, _, _, 0, sb, mb, rb, Nat.zero_le _, rfl, rfl, rfl, rfl, L5.out, Nat.zero_le _, D5.out⟩
  case round =>
    obtain ⟨i, s, L, odd, lp, lr, k, sb, mb, rb, hi, rfl, rfl, rfl, rfl, hP, hk, hD⟩ := hrel
    have HP := Lib.hid hP
    have HD := Lib.hid hD
    clear hP hD D5 L5
    by_cases hlt : i < n
    · obtain ⟨g, off, rfl, hc⟩ := HB.out.cells HD.out.bel hlt
      have hok := Lib.hid (HB.out.ok i hlt)
      have hlm := Lib.hid (HLim.out i hlt)
      obtain ⟨x, hx⟩ : ∃ x, st i = x := ⟨_, rfl⟩
      rw [hx] at hok hlm hc
      have hlI : (i : Int) < (n : Int) := by omega
      have hiI : (0 : Int) ≤ (i : Int) := by omega
      obtain ⟨q0, q1, q2, q3, q4, q5, q6⟩ := hc
      have hba : Below wr.heap.size wr (wr.alloc (.cells x.cells 40)) := (Below.refl _ _).alloc (Nat.le_refl _) _
      have D1 := Lib.hid ((HD.out.news hba).less (O' := fun k => k = wr.heap.size) fun k hk => .inr ⟨by omega, by subst hk; simp⟩)
      have A1 := Lib.hid (AS.fresh wr x)
      clear hx hba
      obtain ⟨kk, xi, xb, xs, xk⟩ := x
      obtain ⟨p0, p1, p2, p3, p4, p5, p6⟩ := A1.out.all
      clear HD
      go_upto_block 2 with fail
      generalize wr.alloc (.cells #[.int .i64 kk, .int .i64 xi, .int .i64 xb.id, .int .i64 xb.ver, .string xb.data, .string xs, .int .u64 (xk : Int)] 40) = w1 at *
      generalize wr.heap.size = bb at *
      clear q0 q1 q2 q3 q4 q5 q6 p0 p1 p2 p3 p4 p5 p6
      go_cut [7, 9] from 55 to 215 (fun v7 v9 wx => ∃ (s : St) (L : Lay) (odd : List Nat) (lp lr : Bool) (k sb mb rb : Nat), v7 = .pointer (some ⟨sb, 0, none⟩) ∧ v9 = .pointer (some ⟨rb, 0, none⟩) ∧ Pln s L odd lp lr N k ∧ k ≤ 200 * (i + 1) ∧ Duo w wx sb mb pb s L odd lp rb rp s L odd lr (fun q => q = bb) ∧ AS wx bb ⟨kk, xi, xb, xs, xk⟩)
      case first =>
        obtain ⟨p0, p1, p2, p3, p4, p5, p6⟩ := A1.out.all
        by_cases z0 : kk = 0
        · as_aux_lemma =>
            subst z0
            have Pe := Lib.hid (HP.out.put D1.out.good xb)
            have Dd := Lib.hid (D1.out.below (Below.refl _ w1).drew).1
            have Ad := Lib.hid (A1.out.below (Below.refl _ w1).drew)
            have HA := Lib.hid (show Calls Tryz.prog 13 #[.pointer (some ⟨sb, 0, none⟩), .agg #[.int .i64 xb.id, .int .i64 xb.ver, .string xb.data]] w1.drew _ from duo_put Dd.out HT.out HP.out.rest (by omega) HP.out.lp HP.out.len hok.out.2.1)
            have HB := Lib.hid (fun W s2 L2 l2 (Q : Duo w W sb mb pb s2 L2 odd l2 rb rp s L odd lr (fun q => q = bb)) => show Calls Tryz.prog 14 #[.pointer (some ⟨rb, 0, none⟩), .agg #[.int .i64 xb.id, .int .i64 xb.ver, .string xb.data]] W _ from duo_rput Q HP.out.rest (by omega) HP.out.lr HP.out.len xb)
            generalize putE L s xb = pe at *
            generalize putS L s xb = s2 at *
            generalize putY L s xb = L2 at *
            go_wp2_with fail
            go_region_held3 (fun w' => w'.cell? ⟨bb, 2, none⟩ = some (.int .i64 xb.id) ∧ w'.cell? ⟨bb, 3, none⟩ = some (.int .i64 xb.ver) ∧ w'.cell? ⟨bb, 4, none⟩ = some (.string xb.data))
              (first | exact ⟨Af.out.all.2.2.1, Af.out.all.2.2.2.1, Af.out.all.2.2.2.2.1⟩ | exact ⟨Ae.out.all.2.2.1, Ae.out.all.2.2.2.1, Ae.out.all.2.2.2.2.1⟩ | exact ⟨Ad.out.all.2.2.1, Ad.out.all.2.2.2.1, Ad.out.all.2.2.2.2.1⟩ | fail)
              (first
                | (go_at_call 13; refine HA.out.mono ?_; rintro e w4 ⟨rfl, k1, k2⟩; have De := Lib.hid k1; have Ae := Lib.hid (Ad.out.keptO k2 rfl); clear k1 k2)
                | (go_at_call 14; refine (HB.out _ _ _ _ De.out).mono ?_; rintro e w5 ⟨rfl, k1, k2⟩; have Df := Lib.hid k1; have Af := Lib.hid (Ae.out.keptO k2 rfl); clear k1 k2)
                | fail)
            clear HA HB
            go_wp2_with fail
            go_meet
            case rel => exact ⟨s2, L2, odd, _, _, k + 4, sb, mb, rb, rfl, rfl, Pe.out, by omega, Df.out, Af.out⟩
        by_cases z1 : kk = 1
        · as_aux_lemma =>
            subst z1
            have hi1 := hok.out.1
            have hk1 := hok.out.2.2.2
            have Pe := Lib.hid (HP.out.cut hi1 hk1)
            go_wp2_with fail
            go_at_call 15
            refine (duo_cut D1.out HT.out hi1 hk1).mono ?_
            rintro e w2 ⟨rfl, k1, k2⟩
            have D2 := Lib.hid k1
            have A2 := Lib.hid (A1.out.keptO k2 rfl)
            clear k1 k2 D1 A1
            obtain ⟨p0, p1, p2, p3, p4, p5, p6⟩ := A2.out.all
            go_wp2_with fail
            go_at_call 16
            refine (duo_rcut D2.out xi xk).mono ?_
            rintro e w3 ⟨rfl, k1, k2⟩
            have D3 := Lib.hid k1
            have A3 := Lib.hid (A2.out.keptO k2 rfl)
            clear k1 k2 D2 A2
            obtain ⟨p0, p1, p2, p3, p4, p5, p6⟩ := A3.out.all
            go_wp2_with fail
            go_meet
            case rel => exact ⟨_, L, odd, lp, lr, k, sb, mb, rb, rfl, rfl, Pe.out, by omega, D3.out, A3.out⟩
        by_cases z3 : kk = 3
        · as_aux_lemma =>
            subst z3
            have hs1 := hok.out.2.2.1
            have HR := Lib.hid HP.out.rest
            have hw0 : s.wait.length ≤ 0 := by rw [HR.out.wait]; exact Nat.le_refl _
            have hn0 : s.n ≤ 16000 := Nat.le_trans HR.out.few (by omega)
            have hw1 : (writeS s xi xs).wait.length ≤ 1 := Nat.le_trans (write_wait s xi xs) (by omega)
            have hn1 : (writeS s xi xs).n ≤ 16001 := Nat.le_trans (write_n s xi xs) (by omega)
            have Gw := Lib.hid (HR.out.good.write xi xs)
            have Pe := Lib.hid (HP.out.wrote xi xs)
            go_wp2_with fail
            go_at_call 17
            refine (duo_write D1.out HT.out HR.out.good (by omega) (by omega) xi xs hs1).mono ?_
            rintro e w2 ⟨rfl, k1, k2⟩
            have D2 := Lib.hid k1
            have A2 := Lib.hid (A1.out.keptO k2 rfl)
            clear k1 k2 D1 A1
            obtain ⟨p0, p1, p2, p3, p4, p5, p6⟩ := A2.out.all
            go_wp2_with fail
            go_at_call 18
            refine (duo_rwrite D2.out HR.out.good (by omega) (by omega) xi xs hs1).mono ?_
            rintro e w3 ⟨rfl, k1, k2⟩
            have D3 := Lib.hid k1
            have A3 := Lib.hid (A2.out.keptO k2 rfl)
            clear k1 k2 D2 A2
            obtain ⟨p0, p1, p2, p3, p4, p5, p6⟩ := A3.out.all
            generalize writeE s xi xs = ev
            generalize writeS s xi xs = sw at *
            go_wp2_with fail
            go_at_call 19
            refine (duo_sync D3.out HT.out Gw.out (by omega) (by omega)).mono ?_
            rintro e w4 ⟨rfl, k1, k2⟩
            have D4 := Lib.hid k1
            have A4 := Lib.hid (A3.out.keptO k2 rfl)
            clear k1 k2 D3 A3
            obtain ⟨p0, p1, p2, p3, p4, p5, p6⟩ := A4.out.all
            go_wp2_with fail
            go_at_call 20
            refine (duo_rsync D4.out Gw.out (by omega)).mono ?_
            rintro e w5 ⟨rfl, k1, k2⟩
            have D5 := Lib.hid k1
            have A5 := Lib.hid (A4.out.keptO k2 rfl)
            clear k1 k2 D4 A4
            obtain ⟨p0, p1, p2, p3, p4, p5, p6⟩ := A5.out.all
            go_wp2_with fail
            go_meet
            case rel => exact ⟨_, L, odd, lp, lr, k + 2, sb, mb, rb, rfl, rfl, Pe.out, by omega, D5.out, A5.out⟩
        by_cases z5 : kk = 5
        · as_aux_lemma =>
            subst z5
            have Pe := Lib.hid (HP.out.drop D1.out.good xb.id)
            have Dd := Lib.hid (D1.out.below (Below.refl _ w1).drew).1
            have Ad := Lib.hid (A1.out.below (Below.refl _ w1).drew)
            have HA := Lib.hid (duo_drop Dd.out HT.out HP.out.rest (by omega) HP.out.lp hok.out.2.1)
            have HB := Lib.hid (fun W s2 L2 l2 (Q : Duo w W sb mb pb s2 L2 odd l2 rb rp s L odd lr (fun q => q = bb)) => duo_rdrop Q HP.out.rest (by omega) HP.out.lr HP.out.len xb.id)
            generalize dropE s xb.id = pe at *
            generalize dropS s xb.id = s2 at *
            generalize dropY L s xb.id = L2 at *
            go_wp2_with fail
            go_region_held3 (fun w' => w'.cell? ⟨bb, 2, none⟩ = some (.int .i64 xb.id))
              (first | exact Af.out.all.2.2.1 | exact Ae.out.all.2.2.1 | exact Ad.out.all.2.2.1 | fail)
              (first
                | (go_at_call 21; refine HA.out.mono ?_; rintro e w4 ⟨rfl, k1, k2⟩; have De := Lib.hid k1; have Ae := Lib.hid (Ad.out.keptO k2 rfl); clear k1 k2)
                | (go_at_call 22; refine (HB.out _ _ _ _ De.out).mono ?_; rintro e w5 ⟨rfl, k1, k2⟩; have Df := Lib.hid k1; have Af := Lib.hid (Ae.out.keptO k2 rfl); clear k1 k2)
                | fail)
            clear HA HB
            go_wp2_with fail
            go_meet
            case rel => exact ⟨s2, L2, odd, _, _, k + N + 1, sb, mb, rb, rfl, rfl, Pe.out, by omega, Df.out, Af.out⟩
        by_cases z2 : kk = 2
        · as_aux_lemma =>
            subst z2
            have hk1 := hok.out.2.2.2
            have HR := Lib.hid HP.out.rest
            have hw0 : s.wait.length ≤ 0 := by rw [HR.out.wait]; exact Nat.le_refl _
            have HRa := Lib.hid (HR.out.again xk).1
            have HGa := Lib.hid (HR.out.again xk).2.1
            go_wp2_with fail
            go_at_call 23
            refine (duo_crash D1.out HT.out HR.out.good (by omega) hk1).mono ?_
            rintro e w2 ⟨rfl, k1, k2⟩
            have D2 := Lib.hid k1
            have A2 := Lib.hid (A1.out.keptO k2 rfl)
            clear k1 k2 D1 A1
            obtain ⟨p0, p1, p2, p3, p4, p5, p6⟩ := A2.out.all
            go_wp2_with fail
            go_at_call 24
            refine (duo_rcrash D2.out HR.out.good xk).mono ?_
            rintro e w3 ⟨rfl, k1, k2⟩
            have D3 := Lib.hid k1
            have A3 := Lib.hid (A2.out.keptO k2 rfl)
            clear k1 k2 D2 A2
            obtain ⟨p0, p1, p2, p3, p4, p5, p6⟩ := A3.out.all
            go_wp2_with fail
            go_at_call 25
            refine (duo_power D3.out HT.out).mono ?_
            rintro e w4 ⟨rfl, k1, k2⟩
            have D4 := Lib.hid k1
            have A4 := Lib.hid (A3.out.keptO k2 rfl)
            clear k1 k2 D3 A3
            obtain ⟨p0, p1, p2, p3, p4, p5, p6⟩ := A4.out.all
            go_wp2_with fail
            go_at_call 26
            refine (duo_rpower D4.out).mono ?_
            rintro e w5 ⟨rfl, k1, k2⟩
            have D5 := Lib.hid k1
            have A5 := Lib.hid (A4.out.keptO k2 rfl)
            clear k1 k2 D4 A4
            obtain ⟨p0, p1, p2, p3, p4, p5, p6⟩ := A5.out.all
            generalize power (crash s xk) = sx at *
            go_wp2_with fail
            go_at_call 11
            refine (duo_open D5.out HT.out HRa.out.good HGa.out HRa.out.len).mono ?_
            rintro e w6 ⟨sb2, mb2, rfl, k1, k2⟩
            have D6 := Lib.hid k1
            have A6 := Lib.hid (A5.out.keptO k2 rfl)
            clear k1 k2 D5 A5 p0 p1 p2 p3 p4 p5 p6
            go_wp2_with fail
            go_at_call 12
            refine (duo_ropen D6.out HRa.out.good HGa.out HRa.out.len).mono ?_
            rintro e w7 ⟨rb2, rfl, k1, k2⟩
            have D7 := Lib.hid k1
            have A7 := Lib.hid (A6.out.keptO k2 rfl)
            clear k1 k2 D6 A6
            have Pe := Lib.hid (Pln.opened HRa.out)
            go_wp2_with fail
            go_meet
            case rel => exact ⟨_, _, _, _, _, k, sb2, mb2, rb2, rfl, rfl, Pe.out, by omega, D7.out, A7.out⟩
        by_cases z4 : kk = 4
        · as_aux_lemma =>
            subst z4
            have HR := Lib.hid HP.out.rest
            cases hgo : s.gone with
            | false =>
              have HGa := Lib.hid hgo
              clear hgo
              go_wp2_with fail
              go_at_call 11
              refine (duo_open D1.out HT.out HR.out.good HGa.out HR.out.len).mono ?_
              rintro e w6 ⟨sb2, mb2, rfl, k1, k2⟩
              have D6 := Lib.hid k1
              have A6 := Lib.hid (A1.out.keptO k2 rfl)
              clear k1 k2 D1 A1 p0 p1 p2 p3 p4 p5 p6
              go_wp2_with fail
              go_at_call 12
              refine (duo_ropen D6.out HR.out.good HGa.out HR.out.len).mono ?_
              rintro e w7 ⟨rb2, rfl, k1, k2⟩
              have D7 := Lib.hid k1
              have A7 := Lib.hid (A6.out.keptO k2 rfl)
              clear k1 k2 D6 A6
              have Pe := Lib.hid (Pln.opened HR.out)
              go_wp2_with fail
              go_meet
              case rel => exact ⟨_, _, _, _, _, k, sb2, mb2, rb2, rfl, rfl, Pe.out, by omega, D7.out, A7.out⟩
            | true =>
              have HGa := Lib.hid hgo
              clear hgo
              go_wp2_with fail
              go_at_call 11
              refine (duo_shut D1.out HT.out HGa.out).mono ?_
              rintro e w2 ⟨rfl, rfl⟩
              go_wp2_with fail
              go_at_call 12
              refine (duo_rshut D1.out HGa.out).mono ?_
              rintro e w2 ⟨rfl, rfl⟩
              go_wp2_with fail
              go_meet
              case rel => exact ⟨s, L, odd, lp, lr, k, sb, mb, rb, rfl, rfl, HP.out, by omega, D1.out, A1.out⟩
        have t0 : (kk == 0) = false := by simp [z0]
        have t1 : (kk == 1) = false := by simp [z1]
        have t2 : (kk == 2) = false := by simp [z2]
        have t3 : (kk == 3) = false := by simp [z3]
        have t4 : (kk == 4) = false := by simp [z4]
        have t5 : (kk == 5) = false := by simp [z5]
        clear z0 z1 z2 z3 z4 z5
        go_wp2_with fail
        go_meet
        case rel => exact ⟨s, L, odd, lp, lr, k, sb, mb, rb, rfl, rfl, HP.out, by omega, D1.out, A1.out⟩
      case rest =>
        as_aux_lemma =>
          obtain ⟨s, L, odd, lp, lr, k, sb, mb, rb, rfl, rfl, hP, hk, hD, hA⟩ := hcut
          have HP := Lib.hid hP
          have HD := Lib.hid hD
          have HA := Lib.hid hA
          have hid := Lib.hid hok.out.2.1
          clear hP hD hA hok hlm D1 A1 HHv HB HLim HQ
          obtain ⟨p0, p1, p2, p3, p4, p5, p6⟩ := HA.out.all
          go_wp2_with fail
          go_at_call 27
          refine (duo_get HD.out hid.out).mono ?_
          rintro e w7 ⟨rfl, k1⟩
          obtain ⟨gb, hgb⟩ : ∃ x, getB L xb.id = x := ⟨_, rfl⟩
          obtain ⟨ge, hge⟩ : ∃ x, getE L xb.id = x := ⟨_, rfl⟩
          rw [hgb, hge]
          have HG1 := Lib.hid hgb
          have HG2 := Lib.hid hge
          have kx : Below w7.heap.size w7 (w7.alloc (.cells gb.cells 37)) := (Below.refl _ _).alloc (Nat.le_refl _) _
          have ky := k1.trans (kx.mono k1.size)
          have D8 := Lib.hid (HD.out.below ky).1
          have A8 := Lib.hid (HA.out.below ky)
          have X8 := Lib.hid (AB.fresh w7 gb)
          clear k1 kx ky HD HA p0 p1 p2 p3 p4 p5 p6 hgb hge
          obtain ⟨p0, p1, p2, p3, p4, p5, p6⟩ := A8.out.all
          go_wp2_with fail
          generalize w7.alloc (.cells #[.int .i64 gb.id, .int .i64 gb.ver, .string gb.data] 37) = w8 at *
          generalize w7.heap.size = b8 at *
          go_at_call 28
          refine (duo_rget D8.out xb.id).mono ?_
          rintro e w9 ⟨rfl, k1⟩
          rw [HG1.out, HG2.out]
          have kx : Below w9.heap.size w9 (w9.alloc (.cells gb.cells 37)) := (Below.refl _ _).alloc (Nat.le_refl _) _
          have ky := k1.trans (kx.mono k1.size)
          have D10 := Lib.hid (D8.out.below ky).1
          have X10 := Lib.hid (X8.out.below ky)
          have Y10 := Lib.hid (AB.fresh w9 gb)
          clear k1 kx ky D8 A8 X8 p0 p1 p2 p3 p4 p5 p6 HG1 HG2
          go_wp2_with fail
          generalize w9.alloc (.cells #[.int .i64 gb.id, .int .i64 gb.ver, .string gb.data] 37) = w10 at *
          generalize w9.heap.size = b10 at *
          have bd : Below w10.heap.size w10 w10.drew := (Below.refl _ _).drew
          have D0 := Lib.hid (D10.out.below bd).1
          have X0 := Lib.hid (X10.out.below bd)
          have Y0 := Lib.hid (Y10.out.below bd)
          clear bd D10 X10 Y10
          obtain ⟨vo, c1, c2, c3⟩ := D0.out.cells
          have HO := Lib.hid c3
          have HH := Lib.hid (show ∀ w', Below w10.drew.heap.size w10.drew w' → (w'.cell? ⟨b8, 0, none⟩ = some (.int .i64 gb.id) ∧ w'.cell? ⟨b8, 1, none⟩ = some (.int .i64 gb.ver) ∧ w'.cell? ⟨b8, 2, none⟩ = some (.string gb.data)) ∧ (w'.cell? ⟨b10, 0, none⟩ = some (.int .i64 gb.id) ∧ w'.cell? ⟨b10, 1, none⟩ = some (.int .i64 gb.ver) ∧ w'.cell? ⟨b10, 2, none⟩ = some (.string gb.data)) ∧ w'.cell? ⟨rb, 2, none⟩ = some vo ∧ w'.cell? ⟨rp, 5, none⟩ = some (.int .i64 (s.n : Int)) from fun w' hw => ⟨(X0.out.below hw).all, (Y0.out.below hw).all, (hw.cell (p := ⟨rb, 2, none⟩) (cell_lt c1)).trans c1, (hw.cell (p := ⟨rp, 5, none⟩) (cell_lt c2)).trans c2⟩)
          have B0 := Lib.hid (Below.refl w10.drew.heap.size w10.drew)
          have hlen := Lib.hid (show (listL L).length ≤ 100000 from by rw [list_length D0.out.good]; have := cnt_le L; have := D0.out.good.hi; omega)
          have hfew := Lib.hid (show odd.length ≤ 1000 from Nat.le_trans HP.out.few (by omega))
          have hne := bk_neq gb gb
          rw [decide_eq_true rfl] at hne
          clear c1 c2 c3 X0 Y0
          go_wp2_with fail
          go_region_held3 (fun w' => (w'.cell? ⟨b8, 0, none⟩ = some (.int .i64 gb.id) ∧ w'.cell? ⟨b8, 1, none⟩ = some (.int .i64 gb.ver) ∧ w'.cell? ⟨b8, 2, none⟩ = some (.string gb.data)) ∧ (w'.cell? ⟨b10, 0, none⟩ = some (.int .i64 gb.id) ∧ w'.cell? ⟨b10, 1, none⟩ = some (.int .i64 gb.ver) ∧ w'.cell? ⟨b10, 2, none⟩ = some (.string gb.data)) ∧ w'.cell? ⟨rb, 2, none⟩ = some vo ∧ w'.cell? ⟨rp, 5, none⟩ = some (.int .i64 (s.n : Int)))
            (first | exact HH.out _ B7.out | exact HH.out _ B6.out | exact HH.out _ B5.out | exact HH.out _ B4.out | exact HH.out _ B3.out | exact HH.out _ B2.out | exact HH.out _ B1.out | exact HH.out _ B0.out | fail)
            (first
              | (go_at_call 30; (with_reducible refine (duo_list D0.out).mono ?_); rintro e wA ⟨va, rfl, k1, k2⟩; have VA := Lib.hid k1; have B1 := Lib.hid k2; have D1 := Lib.hid (D0.out.below k2).1; clear k1 k2)
              | (go_at_call 31; (with_reducible refine (duo_rlist D1.out).mono ?_); rintro e wB ⟨vb, rfl, k1, k2⟩; have VB := Lib.hid k1; have VA2 := Lib.hid (OwnsB.below k2 VA.out); have B2 := Lib.hid (B1.out.trans (k2.mono B1.out.size)); have D2 := Lib.hid (D1.out.below k2).1; clear k1 k2)
              | (go_at_call 29; (with_reducible refine (same9_yes VA2.out VB.out hlen.out).mono ?_); rintro e wC ⟨rfl, k2⟩; have B3 := Lib.hid (B2.out.trans (k2.mono B2.out.size)); have D3 := Lib.hid (D2.out.below k2).1; clear k2)
              | (go_at_call 32; (with_reducible refine (duo_free D3.out HP.out.rest.len hN).mono ?_); rintro e wD ⟨rfl, k2⟩; have B4 := Lib.hid (B3.out.trans (k2.mono B3.out.size)); have D4 := Lib.hid (D3.out.below k2).1; clear k2)
              | (go_at_call 33; (with_reducible refine (duo_rfree D4.out HP.out.len).mono ?_); rintro e wE ⟨rfl, k2⟩; have B5 := Lib.hid (B4.out.trans (k2.mono B4.out.size)); have D5 := Lib.hid (D4.out.below k2).1; clear k2)
              | (go_at_call 35; (with_reducible refine (duo_bad D5.out hfew.out).mono ?_); rintro e wF ⟨vb2, rfl, k1, k2⟩; have VB2 := Lib.hid k1; have B6 := Lib.hid (B5.out.trans (k2.mono B5.out.size)); have D6 := Lib.hid (D5.out.below k2).1; clear k1 k2)
              | (go_at_call 34; (with_reducible refine (ints_any VB2.out (ownsRow_below B6.out HO.out) (Nat.le_trans hfew.out (by decide))).mono ?_); rintro e wG ⟨rfl, k2⟩; have B7 := Lib.hid (B6.out.trans (k2.mono B6.out.size)); have D7 := Lib.hid (D6.out.below k2).1; clear k2)
              | (go_at_call 36; (with_reducible refine (duo_calls D7.out HT.out).mono ?_); rintro e wH ⟨rfl, rfl⟩)
              | fail)
          clear HH HO
          go_wp2_with fail
          go_roundg (n - (i + 1))
          case measure => omega
          case rel => exact ⟨i + 1, s, L, odd, lp, lr, k, sb, mb, rb, by omega, rfl, by go_num, rfl, rfl, HP.out, hk, D7.out.less (fun _ h => h.elim)⟩
    · have hlI : ¬ ((i : Int) < (n : Int)) := by omega
      obtain rfl : i = n := by omega
      have B5 := Lib.hid HD.out.bel
      go_wp2
      go_ret
      exact ⟨rfl, B5.out⟩
theorem shelfScript_any (m : Nat) (A : Option Addr) (n c : Nat) (st : Nat → Stp) (w : World) (hT : Tab w) (hm : m < 256) (hS : SIn w A n st) (hn : n ≤ 9223372036854775807) :
    Calls Tryz.prog 3 #[.int .u8 m, .slice A n c] w fun e w' => e = .returned (.bool true) ∧ Below w.heap.size w w' :=
  script_in m A n c st w hT hm hS hn
end Go.Proofs.YtacdbfaoeioflaaGreatDoor
