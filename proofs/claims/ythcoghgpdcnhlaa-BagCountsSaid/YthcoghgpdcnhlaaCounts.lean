/-
  BagCounts, walked.
-/
import Derived.Test.YthcoghgpdcnhlaaCnt
import Derived.Deep.LoopGhost
namespace Go.Proofs.Ythcoghgpdcnhlaa
open Go.RowKit

theorem SB.all3 {w : World} {c : Nat} {k i : Int} {m : M} (h : SB w c ⟨k, i, m⟩) : w.cell? ⟨c, 0, none⟩ = some (.int .i64 k) ∧ w.cell? ⟨c, 1, none⟩ = some (.int .i64 i) ∧ w.cell? ⟨c, 2, none⟩ = some (.int .i64 m.kind) ∧ w.cell? ⟨c, 3, none⟩ = some (.int .i64 m.src) ∧ w.cell? ⟨c, 4, none⟩ = some (.int .i64 m.dst) ∧ w.cell? ⟨c, 5, none⟩ = some (.int .i64 m.epoch) ∧ w.cell? ⟨c, 6, none⟩ = some (.int .i64 m.seq) ∧ w.cell? ⟨c, 7, none⟩ = some (.int .i64 m.off) ∧ w.cell? ⟨c, 8, none⟩ = some (.int .i64 m.len) ∧ w.cell? ⟨c, 9, none⟩ = some (.string m.data) := h.all

set_option maxRecDepth 100000 in
set_option maxHeartbeats 16000000 in
theorem counts_any (A : Option Addr) (n c : Nat) (st : Nat → Stp) (m : M) (w : World) (hn : n ≤ 9223372036854775807) (hss : ∀ i, i < n → (st i).m.data.size ≤ 9223372036854775807) (hS : Steps w A n st) :
    Calls Try.prog 4 #[.slice A n c, m.val] w fun e w' => e = .returned (.bool true) ∧ Below w.heap.size w w' := by
  have hb0 : Below w.heap.size w (w.alloc (.cells m.cells 31)) := (Below.refl _ _).alloc (Nat.le_refl _) _
  have hz0 : (w.alloc (.cells m.cells 31)).heap.size = w.heap.size + 1 := by simp
  have hS1 : Steps (w.alloc (.cells m.cells 31)) A n st := fun i hi => by
    obtain ⟨b, off, hA, hat⟩ := hS i hi
    have hl := hat.lt
    exact ⟨b, off, hA, hat.kept (fun o => hb0.cell (p := ⟨b, o, none⟩) hl)⟩
  have HS := Lib.hid hS
  have HH := Lib.hid (heavy_any A n c st _ hn hss hS1)
  have B0 := Lib.hid hb0
  have M0 := Lib.hid (Mat.fresh w m 31)
  clear hS hss hS1 hb0
  go_enter Try.func4, Try.ntmps4
  go_wp2_with fail
  go_at_call 9
  refine HH.out.mono ?_
  rintro e w' ⟨h, rfl, hh, rfl⟩
  generalize w.alloc (.cells m.cells 31) = w0 at HH B0 M0 hz0 ⊢
  cases h with
  | true =>
    clear hh
    go_wp2
    go_ret
    exact ⟨rfl, B0.out⟩
  | false =>
  have hn8 := hh rfl
  clear hh HH
  go_wp2_with fail
  go_at_call 10
  refine (new_any _).mono ?_
  rintro e w1 ⟨rfl, hB1, hb1, hz1⟩
  rw [hz0] at hB1 hz1 ⊢
  have T1 := Lib.hid hB1
  have B1 := Lib.hid (B0.out.trans (hb1.mono B0.out.size))
  have M1 := Lib.hid (M0.out.below hb1)
  clear hB1 hb1 hz0 B0 M0
  go_wp2
  go_loopg [6, 7] n (fun g nv iv wr => ∃ (k : Nat) (r : Option Nat) (l : List M), k ≤ n ∧ g = n - k ∧ iv = .int .i64 k ∧ nv = .int .i64 (cnt m l) ∧ Bg wr (w.heap.size + 1) r l ∧ Fit l ∧ Mat wr w.heap.size m ∧ Below w.heap.size w wr)
  case atStart => exact ⟨0, none, [], Nat.zero_le _, rfl, rfl, by simp [cnt], T1.out, Fit.nil, M1.out, B1.out⟩
  case round =>
    obtain ⟨k, r, l, hk, hg, rfl, rfl, hT, hF, hM, hB⟩ := hrel
    have T4 := Lib.hid hT
    have F4 := Lib.hid hF
    have M4 := Lib.hid hM
    have B4 := Lib.hid hB
    have HG := Lib.hid hg
    have hl := hF.le
    have hcl := cnt_le m l
    clear hT hF hB hM hg
    by_cases hlt : k < n
    · have hlI : (k : Int) < (n : Int) := by omega
      have hkI : (0 : Int) ≤ (k : Int) := by omega
      obtain ⟨b, off, rfl, hat⟩ := HS.out k hlt
      have hbl := hat.lt
      obtain ⟨c0, c1, c2, c3, c4, c5, c6, c7, c8, c9⟩ := hat.kept (w' := wr) (fun o => B4.out.cell (p := ⟨b, o, none⟩) hbl)
      clear hat
      generalize st k = o at c0 c1 c2 c3 c4 c5 c6 c7 c8 c9
      have hbO : Below wr.heap.size wr (wr.alloc (.cells o.cells 37)) := (Below.refl _ _).alloc (Nat.le_refl _) _
      have T5 := Lib.hid (T4.out.below hbO)
      have M5 := Lib.hid (M4.out.below hbO)
      have B5 := Lib.hid (B4.out.trans (hbO.mono B4.out.size))
      have S5 := Lib.hid (SB.fresh wr o)
      have l4 := T4.out.lt
      have q4 : ∀ g, r = some g → g < wr.heap.size := fun _ hg => (T4.out.row_lt hg).2
      clear hbO
      go_wp2_with fail
      go_at_call 14
      generalize wr.alloc (.cells o.cells 37) = w5 at T5 M5 B5 S5 ⊢
      refine (list_any _ _ l _ T5.out (by omega)).mono ?_
      rintro e w6 ⟨va, rfl, k1, k2⟩
      have T6 := Lib.hid (T5.out.below k2)
      have M6 := Lib.hid (M5.out.below k2)
      have B6 := Lib.hid (B5.out.trans (k2.mono B5.out.size))
      have S6 := Lib.hid (S5.out.below k2)
      obtain ⟨Aa, ca, rfl, haa⟩ := k1.look
      have HA := Lib.hid haa
      have l6 := S6.out.lt
      clear haa k1 k2 c0 c1 c2 c3 c4 c5 c6 c7 c8 c9
      go_upto_region 10 with fail
      go_cut [10] (fun s10 wx => s10 = .bool (thr l o.i m) ∧ Below w6.heap.size w6 wx)
      case first =>
        obtain ⟨y0, y1, -⟩ := S6.out.all
        obtain ⟨d0, d1, d2, d3, d4, d5, d6, d7⟩ := M6.out.all
        by_cases hh : has l o.i
        · have h1 := hh.1
          have h2 := hh.2
          obtain ⟨ga, rfl, hga, hat⟩ := HA.out _ _ (atP_get hh)
          obtain ⟨e0, e1, e2, e3, e4, e5, e6, e7⟩ := hat
          have HTH := Lib.hid (show thr l o.i m = (atP l o.i).eqb m by unfold thr; simp [hh])
          have hq := fun W => msg_eq (atP l o.i) m W
          generalize (atP l o.i).eqb m = tb at hq HTH
          generalize atP l o.i = xx at hq e0 e1 e2 e3 e4 e5 e6 e7
          have hd1 : decide ((0 : Int) ≤ o.i) = true := by simpa using h1
          have hd2 : decide (o.i < (l.length : Int)) = true := by simpa using h2
          have hti : ((o.i.toNat : Nat) : Int) = o.i := by omega
          go_quiet (fail)
          go_wp2_with fail
          go_meet
          exact ⟨by rw [HTH.out], below_drewN (Below.refl _ _) _⟩
        · have HTH := Lib.hid (show thr l o.i m = false by unfold thr; simp [hh])
          by_cases h1 : o.i < 0
          · have hd1 : decide ((0 : Int) ≤ o.i) = false := by simp; omega
            go_quiet (fail)
            go_wp2_with fail
            go_meet
            exact ⟨by rw [HTH.out], below_drewN (Below.refl _ _) _⟩
          · have hd1 : decide ((0 : Int) ≤ o.i) = true := by simp; omega
            have hd0 : (0 : Int) ≤ o.i := by omega
            have hd2 : decide (o.i < (l.length : Int)) = false := by have := not_has hh; simp; omega
            go_quiet (fail)
            go_wp2_with fail
            go_meet
            exact ⟨by rw [HTH.out], below_drewN (Below.refl _ _) _⟩
      case rest =>
        obtain ⟨rfl, hbx⟩ := hcut
        have T7 := Lib.hid (T6.out.below hbx)
        have M7 := Lib.hid (M6.out.below hbx)
        have B7 := Lib.hid (B6.out.trans (hbx.mono B6.out.size))
        obtain ⟨kk, oi, om⟩ := o
        have S7 := Lib.hid (S6.out.below hbx)
        obtain ⟨th, hth⟩ : ∃ th, thr l oi m = th := ⟨_, rfl⟩
        have HTH := Lib.hid hth
        have z7 := hbx.size
        obtain ⟨c0, hc0⟩ : ∃ c0, cnt m l = c0 := ⟨_, rfl⟩
        have HC0 := Lib.hid hc0
        rw [hc0] at hcl
        obtain ⟨y0, y1, y2, y3, y4, y5, y6, y7, y8, y9⟩ := S7.out.all3
        dsimp only
        rw [hth, hc0]
        clear hth hc0 hbx T6 M6 B6 S6 T5 M5 B5 S5 HA
        by_cases h0 : kk = 0
        · subst h0
          have HD := Lib.hid (send_any (w.heap.size + 1) r l om wc T7.out (by omega))
          have FN := Lib.hid (F4.out.send om)
          have SC := Lib.hid (send_cases l om)
          generalize sendE l om = xE at HD SC
          generalize sendL l om = kl at HD FN SC
          rcases SC.out with ⟨hx, hkl⟩ | ⟨hx, hkl⟩
          · subst hx
            by_cases hom : om.eqb m = true
            · have HCT := Lib.hid (show ((cnt m kl : Nat) : Int) = (c0 : Int) + 1 by rw [hkl, cnt_more, cnt_yes hom, HC0.out]; omega)
              have hq : ∀ W, (binOp .eql 31 om.val m.val).run Try.prog W = .ok (.bool true) W := fun W => by rw [msg_eq, hom]
              clear hkl SC hom
              have HC := Lib.hid (show ∀ (W : World) (B : Nat) (v : Value), Owns W B v kl → Calls Try.prog 23 #[v, m.val] W fun e w' => e = .returned (.int .i64 ((c0 : Int) + 1)) ∧ Below W.heap.size W w' from fun W B v h => by
                have := count_any B v kl m W h (by have := FN.out.le; omega)
                rw [HCT.out] at this
                exact this)
              have hL9 : (kl).length ≤ 1000 := by have := FN.out.le; omega
              go_wp2_with fail
              go_at_call 18
              refine HD.out.mono ?_
              rintro e w8 ⟨rfl, r8, k1, k2, k3⟩
              have T8 := Lib.hid k1
              have M8 := Lib.hid (M7.out.fr k3 (by omega) (fun e => by have := (T7.out.row_lt e.symm).1; omega))
              have B8 := Lib.hid (B7.out.trans (k3.belowB T7.out (by omega)))
              have S8 := Lib.hid (S7.out.fr k3 (by omega) (fun e => by have := q4 _ e.symm; omega))
              obtain ⟨x0, x1, x2, x3, x4, x5, x6, x7, x8, x9⟩ := S8.out.all3
              obtain ⟨d0, d1, d2, d3, d4, d5, d6, d7⟩ := M8.out.all
              clear k1 k2 k3 y0 y1 y2 y3 y4 y5 y6 y7 y8 y9
              go_wp2_with fail
              have hbd : Below w8.heap.size w8 w8.drew := (Below.refl _ _).drew
              have Tz := Lib.hid (T8.out.below hbd)
              have Mz := Lib.hid (M8.out.below hbd)
              have Bz := Lib.hid (B8.out.trans (hbd.mono B8.out.size))
              clear hbd
              go_region_held3 (fun w' => w'.cell? ⟨w.heap.size, 0, none⟩ = some (.int .i64 m.kind) ∧ w'.cell? ⟨w.heap.size, 1, none⟩ = some (.int .i64 m.src) ∧ w'.cell? ⟨w.heap.size, 2, none⟩ = some (.int .i64 m.dst) ∧ w'.cell? ⟨w.heap.size, 3, none⟩ = some (.int .i64 m.epoch) ∧ w'.cell? ⟨w.heap.size, 4, none⟩ = some (.int .i64 m.seq) ∧ w'.cell? ⟨w.heap.size, 5, none⟩ = some (.int .i64 m.off) ∧ w'.cell? ⟨w.heap.size, 6, none⟩ = some (.int .i64 m.len) ∧ w'.cell? ⟨w.heap.size, 7, none⟩ = some (.string m.data))
                (first | exact Mz.out.all | exact Ma.out.all | exact Mb.out.all | fail)
                (first
                  | (go_at_call 14; refine (list_any _ _ kl _ Tz.out hL9).mono ?_; rintro e wa ⟨v9, rfl, k1, k2⟩; have Ta := Lib.hid (Tz.out.below k2); have Ma := Lib.hid (Mz.out.below k2); have Ba := Lib.hid (Bz.out.trans (k2.mono Bz.out.size)); have Va := Lib.hid k1; clear k1 k2)
                  | (go_at_call 23; refine (HC.out _ _ _ Va.out).mono ?_; rintro e wb ⟨rfl, k2⟩; have Tb := Lib.hid (Ta.out.below k2); have Mb := Lib.hid (Ma.out.below k2); have Bb := Lib.hid (Ba.out.trans (k2.mono Ba.out.size)); clear k2)
                  | fail)
              go_wp2
              go_roundg (n - (k + 1))
              case measure => have := HG.out; omega
              case rel => exact ⟨k + 1, _, kl, by omega, rfl, by go_num, by rw [HCT.out], Tb.out, FN.out, Mb.out, Bb.out⟩
            · have hom' : om.eqb m = false := by simpa using hom
              have HCT := Lib.hid (show ((cnt m kl : Nat) : Int) = (c0 : Int) by rw [hkl, cnt_more, cnt_no hom', HC0.out]; omega)
              have hq : ∀ W, (binOp .eql 31 om.val m.val).run Try.prog W = .ok (.bool false) W := fun W => by rw [msg_eq, hom']
              clear hkl SC hom hom'
              have HC := Lib.hid (show ∀ (W : World) (B : Nat) (v : Value), Owns W B v kl → Calls Try.prog 23 #[v, m.val] W fun e w' => e = .returned (.int .i64 ((c0 : Int))) ∧ Below W.heap.size W w' from fun W B v h => by
                have := count_any B v kl m W h (by have := FN.out.le; omega)
                rw [HCT.out] at this
                exact this)
              have hL9 : (kl).length ≤ 1000 := by have := FN.out.le; omega
              go_wp2_with fail
              go_at_call 18
              refine HD.out.mono ?_
              rintro e w8 ⟨rfl, r8, k1, k2, k3⟩
              have T8 := Lib.hid k1
              have M8 := Lib.hid (M7.out.fr k3 (by omega) (fun e => by have := (T7.out.row_lt e.symm).1; omega))
              have B8 := Lib.hid (B7.out.trans (k3.belowB T7.out (by omega)))
              have S8 := Lib.hid (S7.out.fr k3 (by omega) (fun e => by have := q4 _ e.symm; omega))
              obtain ⟨x0, x1, x2, x3, x4, x5, x6, x7, x8, x9⟩ := S8.out.all3
              obtain ⟨d0, d1, d2, d3, d4, d5, d6, d7⟩ := M8.out.all
              clear k1 k2 k3 y0 y1 y2 y3 y4 y5 y6 y7 y8 y9
              go_wp2_with fail
              have hbd : Below w8.heap.size w8 w8.drew := (Below.refl _ _).drew
              have Tz := Lib.hid (T8.out.below hbd)
              have Mz := Lib.hid (M8.out.below hbd)
              have Bz := Lib.hid (B8.out.trans (hbd.mono B8.out.size))
              clear hbd
              go_region_held3 (fun w' => w'.cell? ⟨w.heap.size, 0, none⟩ = some (.int .i64 m.kind) ∧ w'.cell? ⟨w.heap.size, 1, none⟩ = some (.int .i64 m.src) ∧ w'.cell? ⟨w.heap.size, 2, none⟩ = some (.int .i64 m.dst) ∧ w'.cell? ⟨w.heap.size, 3, none⟩ = some (.int .i64 m.epoch) ∧ w'.cell? ⟨w.heap.size, 4, none⟩ = some (.int .i64 m.seq) ∧ w'.cell? ⟨w.heap.size, 5, none⟩ = some (.int .i64 m.off) ∧ w'.cell? ⟨w.heap.size, 6, none⟩ = some (.int .i64 m.len) ∧ w'.cell? ⟨w.heap.size, 7, none⟩ = some (.string m.data))
                (first | exact Mz.out.all | exact Ma.out.all | exact Mb.out.all | fail)
                (first
                  | (go_at_call 14; refine (list_any _ _ kl _ Tz.out hL9).mono ?_; rintro e wa ⟨v9, rfl, k1, k2⟩; have Ta := Lib.hid (Tz.out.below k2); have Ma := Lib.hid (Mz.out.below k2); have Ba := Lib.hid (Bz.out.trans (k2.mono Bz.out.size)); have Va := Lib.hid k1; clear k1 k2)
                  | (go_at_call 23; refine (HC.out _ _ _ Va.out).mono ?_; rintro e wb ⟨rfl, k2⟩; have Tb := Lib.hid (Ta.out.below k2); have Mb := Lib.hid (Ma.out.below k2); have Bb := Lib.hid (Ba.out.trans (k2.mono Ba.out.size)); clear k2)
                  | fail)
              go_wp2
              go_roundg (n - (k + 1))
              case measure => have := HG.out; omega
              case rel => exact ⟨k + 1, _, kl, by omega, rfl, by go_num, by rw [HCT.out], Tb.out, FN.out, Mb.out, Bb.out⟩
          · have HCT := Lib.hid (show ((cnt m kl : Nat) : Int) = (c0 : Int) by rw [hkl, HC0.out])
            clear hkl SC
            have HC := Lib.hid (show ∀ (W : World) (B : Nat) (v : Value), Owns W B v kl → Calls Try.prog 23 #[v, m.val] W fun e w' => e = .returned (.int .i64 ((c0 : Int))) ∧ Below W.heap.size W w' from fun W B v h => by
              have := count_any B v kl m W h (by have := FN.out.le; omega)
              rw [HCT.out] at this
              exact this)
            have hL9 : (kl).length ≤ 1000 := by have := FN.out.le; omega
            go_wp2_with fail
            go_at_call 18
            refine HD.out.mono ?_
            rintro e w8 ⟨rfl, r8, k1, k2, k3⟩
            have T8 := Lib.hid k1
            have M8 := Lib.hid (M7.out.fr k3 (by omega) (fun e => by have := (T7.out.row_lt e.symm).1; omega))
            have B8 := Lib.hid (B7.out.trans (k3.belowB T7.out (by omega)))
            have S8 := Lib.hid (S7.out.fr k3 (by omega) (fun e => by have := q4 _ e.symm; omega))
            obtain ⟨x0, x1, x2, x3, x4, x5, x6, x7, x8, x9⟩ := S8.out.all3
            obtain ⟨d0, d1, d2, d3, d4, d5, d6, d7⟩ := M8.out.all
            clear k1 k2 k3 y0 y1 y2 y3 y4 y5 y6 y7 y8 y9
            go_wp2_with fail
            have hbd : Below w8.heap.size w8 w8.drew := (Below.refl _ _).drew
            have Tz := Lib.hid (T8.out.below hbd)
            have Mz := Lib.hid (M8.out.below hbd)
            have Bz := Lib.hid (B8.out.trans (hbd.mono B8.out.size))
            clear hbd
            go_region_held3 (fun w' => w'.cell? ⟨w.heap.size, 0, none⟩ = some (.int .i64 m.kind) ∧ w'.cell? ⟨w.heap.size, 1, none⟩ = some (.int .i64 m.src) ∧ w'.cell? ⟨w.heap.size, 2, none⟩ = some (.int .i64 m.dst) ∧ w'.cell? ⟨w.heap.size, 3, none⟩ = some (.int .i64 m.epoch) ∧ w'.cell? ⟨w.heap.size, 4, none⟩ = some (.int .i64 m.seq) ∧ w'.cell? ⟨w.heap.size, 5, none⟩ = some (.int .i64 m.off) ∧ w'.cell? ⟨w.heap.size, 6, none⟩ = some (.int .i64 m.len) ∧ w'.cell? ⟨w.heap.size, 7, none⟩ = some (.string m.data))
              (first | exact Mz.out.all | exact Ma.out.all | exact Mb.out.all | fail)
              (first
                | (go_at_call 14; refine (list_any _ _ kl _ Tz.out hL9).mono ?_; rintro e wa ⟨v9, rfl, k1, k2⟩; have Ta := Lib.hid (Tz.out.below k2); have Ma := Lib.hid (Mz.out.below k2); have Ba := Lib.hid (Bz.out.trans (k2.mono Bz.out.size)); have Va := Lib.hid k1; clear k1 k2)
                | (go_at_call 23; refine (HC.out _ _ _ Va.out).mono ?_; rintro e wb ⟨rfl, k2⟩; have Tb := Lib.hid (Ta.out.below k2); have Mb := Lib.hid (Ma.out.below k2); have Bb := Lib.hid (Ba.out.trans (k2.mono Ba.out.size)); clear k2)
                | fail)
            go_wp2
            go_roundg (n - (k + 1))
            case measure => have := HG.out; omega
            case rel => exact ⟨k + 1, _, kl, by omega, rfl, by go_num, by rw [HCT.out], Tb.out, FN.out, Mb.out, Bb.out⟩
        by_cases h1 : kk = 1
        · subst h1
          have HD := Lib.hid (take_any (w.heap.size + 1) r l oi wc T7.out (by omega))
          have FN := Lib.hid (F4.out.take oi)
          cases th with
          | true =>
            have hc := take_yes_cnt HTH.out
            generalize tkE l oi = xE at HD hc
            generalize tkM l oi = xM at HD hc
            generalize tkL l oi = kl at HD FN hc
            obtain ⟨hx, hxm, hct⟩ := hc
            subst hx
            have HCT := Lib.hid (show ((cnt m kl : Nat) : Int) = (c0 : Int) - 1 by rw [← HC0.out, hct]; omega)
            have hq : ∀ W, (binOp .eql 31 xM.val m.val).run Try.prog W = .ok (.bool true) W := fun W => by rw [msg_eq, hxm]
            clear hct hxm
            have HC := Lib.hid (show ∀ (W : World) (B : Nat) (v : Value), Owns W B v kl → Calls Try.prog 23 #[v, m.val] W fun e w' => e = .returned (.int .i64 ((c0 : Int) - 1)) ∧ Below W.heap.size W w' from fun W B v h => by
              have := count_any B v kl m W h (by have := FN.out.le; omega)
              rw [HCT.out] at this
              exact this)
            have hL9 : (kl).length ≤ 1000 := by have := FN.out.le; omega
            go_wp2_with fail
            go_at_call 11
            refine HD.out.mono ?_
            rintro e w8 ⟨rfl, r8, k1, k2, k3⟩
            have T8 := Lib.hid k1
            have M8 := Lib.hid (M7.out.fr k3 (by omega) (fun e => by have := (T7.out.row_lt e.symm).1; omega))
            have B8 := Lib.hid (B7.out.trans (k3.belowB T7.out (by omega)))
            have S8 := Lib.hid (S7.out.fr k3 (by omega) (fun e => by have := q4 _ e.symm; omega))
            obtain ⟨x0, x1, x2, x3, x4, x5, x6, x7, x8, x9⟩ := S8.out.all3
            obtain ⟨d0, d1, d2, d3, d4, d5, d6, d7⟩ := M8.out.all
            clear k1 k2 k3 y0 y1 y2 y3 y4 y5 y6 y7 y8 y9
            have hbz : Below w8.heap.size w8 (w8.alloc (.cells xM.cells 31)) := (Below.refl _ _).alloc (Nat.le_refl _) _
            have T9 := Lib.hid (T8.out.below hbz)
            have M9 := Lib.hid (M8.out.below hbz)
            have B9 := Lib.hid (B8.out.trans (hbz.mono B8.out.size))
            have l8 := M8.out.lt
            clear hbz
            go_wp2_with fail
            generalize w8.alloc (.cells xM.cells 31) = w9 at T9 M9 B9 ⊢
            have hbd : Below w9.heap.size w9 w9.drew := (Below.refl _ _).drew
            have Tz := Lib.hid (T9.out.below hbd)
            have Mz := Lib.hid (M9.out.below hbd)
            have Bz := Lib.hid (B9.out.trans (hbd.mono B9.out.size))
            clear hbd
            go_region_held3 (fun w' => w'.cell? ⟨w.heap.size, 0, none⟩ = some (.int .i64 m.kind) ∧ w'.cell? ⟨w.heap.size, 1, none⟩ = some (.int .i64 m.src) ∧ w'.cell? ⟨w.heap.size, 2, none⟩ = some (.int .i64 m.dst) ∧ w'.cell? ⟨w.heap.size, 3, none⟩ = some (.int .i64 m.epoch) ∧ w'.cell? ⟨w.heap.size, 4, none⟩ = some (.int .i64 m.seq) ∧ w'.cell? ⟨w.heap.size, 5, none⟩ = some (.int .i64 m.off) ∧ w'.cell? ⟨w.heap.size, 6, none⟩ = some (.int .i64 m.len) ∧ w'.cell? ⟨w.heap.size, 7, none⟩ = some (.string m.data))
              (first | exact Mz.out.all | exact Ma.out.all | exact Mb.out.all | fail)
              (first
                | (go_at_call 14; refine (list_any _ _ kl _ Tz.out hL9).mono ?_; rintro e wa ⟨v9, rfl, k1, k2⟩; have Ta := Lib.hid (Tz.out.below k2); have Ma := Lib.hid (Mz.out.below k2); have Ba := Lib.hid (Bz.out.trans (k2.mono Bz.out.size)); have Va := Lib.hid k1; clear k1 k2)
                | (go_at_call 23; refine (HC.out _ _ _ Va.out).mono ?_; rintro e wb ⟨rfl, k2⟩; have Tb := Lib.hid (Ta.out.below k2); have Mb := Lib.hid (Ma.out.below k2); have Bb := Lib.hid (Ba.out.trans (k2.mono Ba.out.size)); clear k2)
                | fail)
            go_wp2
            go_roundg (n - (k + 1))
            case measure => have := HG.out; omega
            case rel => exact ⟨k + 1, _, kl, by omega, rfl, by go_num, by rw [HCT.out], Tb.out, FN.out, Mb.out, Bb.out⟩
          | false =>
            have hc := take_no_cnt HTH.out
            generalize tkE l oi = xE at HD hc
            generalize tkM l oi = xM at HD hc
            generalize tkL l oi = kl at HD FN hc
            obtain ⟨hct, hx⟩ := hc
            have HCT := Lib.hid (show ((cnt m kl : Nat) : Int) = (c0 : Int) by rw [← HC0.out, hct])
            clear hct
            rcases hx with hx | ⟨hx, hxm⟩
            · have HC := Lib.hid (show ∀ (W : World) (B : Nat) (v : Value), Owns W B v kl → Calls Try.prog 23 #[v, m.val] W fun e w' => e = .returned (.int .i64 ((c0 : Int))) ∧ Below W.heap.size W w' from fun W B v h => by
                have := count_any B v kl m W h (by have := FN.out.le; omega)
                rw [HCT.out] at this
                exact this)
              have hL9 : (kl).length ≤ 1000 := by have := FN.out.le; omega
              go_wp2_with fail
              go_at_call 11
              refine HD.out.mono ?_
              rintro e w8 ⟨rfl, r8, k1, k2, k3⟩
              have T8 := Lib.hid k1
              have M8 := Lib.hid (M7.out.fr k3 (by omega) (fun e => by have := (T7.out.row_lt e.symm).1; omega))
              have B8 := Lib.hid (B7.out.trans (k3.belowB T7.out (by omega)))
              have S8 := Lib.hid (S7.out.fr k3 (by omega) (fun e => by have := q4 _ e.symm; omega))
              obtain ⟨x0, x1, x2, x3, x4, x5, x6, x7, x8, x9⟩ := S8.out.all3
              obtain ⟨d0, d1, d2, d3, d4, d5, d6, d7⟩ := M8.out.all
              clear k1 k2 k3 y0 y1 y2 y3 y4 y5 y6 y7 y8 y9
              have hbz : Below w8.heap.size w8 (w8.alloc (.cells xM.cells 31)) := (Below.refl _ _).alloc (Nat.le_refl _) _
              have T9 := Lib.hid (T8.out.below hbz)
              have M9 := Lib.hid (M8.out.below hbz)
              have B9 := Lib.hid (B8.out.trans (hbz.mono B8.out.size))
              have l8 := M8.out.lt
              clear hbz
              go_wp2_with fail
              generalize w8.alloc (.cells xM.cells 31) = w9 at T9 M9 B9 ⊢
              have hbd : Below w9.heap.size w9 w9.drew := (Below.refl _ _).drew
              have Tz := Lib.hid (T9.out.below hbd)
              have Mz := Lib.hid (M9.out.below hbd)
              have Bz := Lib.hid (B9.out.trans (hbd.mono B9.out.size))
              clear hbd
              go_region_held3 (fun w' => w'.cell? ⟨w.heap.size, 0, none⟩ = some (.int .i64 m.kind) ∧ w'.cell? ⟨w.heap.size, 1, none⟩ = some (.int .i64 m.src) ∧ w'.cell? ⟨w.heap.size, 2, none⟩ = some (.int .i64 m.dst) ∧ w'.cell? ⟨w.heap.size, 3, none⟩ = some (.int .i64 m.epoch) ∧ w'.cell? ⟨w.heap.size, 4, none⟩ = some (.int .i64 m.seq) ∧ w'.cell? ⟨w.heap.size, 5, none⟩ = some (.int .i64 m.off) ∧ w'.cell? ⟨w.heap.size, 6, none⟩ = some (.int .i64 m.len) ∧ w'.cell? ⟨w.heap.size, 7, none⟩ = some (.string m.data))
                (first | exact Mz.out.all | exact Ma.out.all | exact Mb.out.all | fail)
                (first
                  | (go_at_call 14; refine (list_any _ _ kl _ Tz.out hL9).mono ?_; rintro e wa ⟨v9, rfl, k1, k2⟩; have Ta := Lib.hid (Tz.out.below k2); have Ma := Lib.hid (Mz.out.below k2); have Ba := Lib.hid (Bz.out.trans (k2.mono Bz.out.size)); have Va := Lib.hid k1; clear k1 k2)
                  | (go_at_call 23; refine (HC.out _ _ _ Va.out).mono ?_; rintro e wb ⟨rfl, k2⟩; have Tb := Lib.hid (Ta.out.below k2); have Mb := Lib.hid (Ma.out.below k2); have Bb := Lib.hid (Ba.out.trans (k2.mono Ba.out.size)); clear k2)
                  | fail)
              go_wp2
              go_roundg (n - (k + 1))
              case measure => have := HG.out; omega
              case rel => exact ⟨k + 1, _, kl, by omega, rfl, by go_num, by rw [HCT.out], Tb.out, FN.out, Mb.out, Bb.out⟩
            · subst hx
              have hq : ∀ W, (binOp .eql 31 xM.val m.val).run Try.prog W = .ok (.bool false) W := fun W => by rw [msg_eq, hxm]
              clear hxm
              have HC := Lib.hid (show ∀ (W : World) (B : Nat) (v : Value), Owns W B v kl → Calls Try.prog 23 #[v, m.val] W fun e w' => e = .returned (.int .i64 ((c0 : Int))) ∧ Below W.heap.size W w' from fun W B v h => by
                have := count_any B v kl m W h (by have := FN.out.le; omega)
                rw [HCT.out] at this
                exact this)
              have hL9 : (kl).length ≤ 1000 := by have := FN.out.le; omega
              go_wp2_with fail
              go_at_call 11
              refine HD.out.mono ?_
              rintro e w8 ⟨rfl, r8, k1, k2, k3⟩
              have T8 := Lib.hid k1
              have M8 := Lib.hid (M7.out.fr k3 (by omega) (fun e => by have := (T7.out.row_lt e.symm).1; omega))
              have B8 := Lib.hid (B7.out.trans (k3.belowB T7.out (by omega)))
              have S8 := Lib.hid (S7.out.fr k3 (by omega) (fun e => by have := q4 _ e.symm; omega))
              obtain ⟨x0, x1, x2, x3, x4, x5, x6, x7, x8, x9⟩ := S8.out.all3
              obtain ⟨d0, d1, d2, d3, d4, d5, d6, d7⟩ := M8.out.all
              clear k1 k2 k3 y0 y1 y2 y3 y4 y5 y6 y7 y8 y9
              have hbz : Below w8.heap.size w8 (w8.alloc (.cells xM.cells 31)) := (Below.refl _ _).alloc (Nat.le_refl _) _
              have T9 := Lib.hid (T8.out.below hbz)
              have M9 := Lib.hid (M8.out.below hbz)
              have B9 := Lib.hid (B8.out.trans (hbz.mono B8.out.size))
              have l8 := M8.out.lt
              clear hbz
              go_wp2_with fail
              generalize w8.alloc (.cells xM.cells 31) = w9 at T9 M9 B9 ⊢
              have hbd : Below w9.heap.size w9 w9.drew := (Below.refl _ _).drew
              have Tz := Lib.hid (T9.out.below hbd)
              have Mz := Lib.hid (M9.out.below hbd)
              have Bz := Lib.hid (B9.out.trans (hbd.mono B9.out.size))
              clear hbd
              go_region_held3 (fun w' => w'.cell? ⟨w.heap.size, 0, none⟩ = some (.int .i64 m.kind) ∧ w'.cell? ⟨w.heap.size, 1, none⟩ = some (.int .i64 m.src) ∧ w'.cell? ⟨w.heap.size, 2, none⟩ = some (.int .i64 m.dst) ∧ w'.cell? ⟨w.heap.size, 3, none⟩ = some (.int .i64 m.epoch) ∧ w'.cell? ⟨w.heap.size, 4, none⟩ = some (.int .i64 m.seq) ∧ w'.cell? ⟨w.heap.size, 5, none⟩ = some (.int .i64 m.off) ∧ w'.cell? ⟨w.heap.size, 6, none⟩ = some (.int .i64 m.len) ∧ w'.cell? ⟨w.heap.size, 7, none⟩ = some (.string m.data))
                (first | exact Mz.out.all | exact Ma.out.all | exact Mb.out.all | fail)
                (first
                  | (go_at_call 14; refine (list_any _ _ kl _ Tz.out hL9).mono ?_; rintro e wa ⟨v9, rfl, k1, k2⟩; have Ta := Lib.hid (Tz.out.below k2); have Ma := Lib.hid (Mz.out.below k2); have Ba := Lib.hid (Bz.out.trans (k2.mono Bz.out.size)); have Va := Lib.hid k1; clear k1 k2)
                  | (go_at_call 23; refine (HC.out _ _ _ Va.out).mono ?_; rintro e wb ⟨rfl, k2⟩; have Tb := Lib.hid (Ta.out.below k2); have Mb := Lib.hid (Ma.out.below k2); have Bb := Lib.hid (Ba.out.trans (k2.mono Ba.out.size)); clear k2)
                  | fail)
              go_wp2
              go_roundg (n - (k + 1))
              case measure => have := HG.out; omega
              case rel => exact ⟨k + 1, _, kl, by omega, rfl, by go_num, by rw [HCT.out], Tb.out, FN.out, Mb.out, Bb.out⟩
        by_cases h2 : kk = 2
        · subst h2
          have HD := Lib.hid (twice_any (w.heap.size + 1) r l oi wc T7.out (by omega))
          have FN := Lib.hid (F4.out.twice oi)
          have SC := Lib.hid (twice_cnt l oi m)
          rw [HTH.out, HC0.out] at SC
          generalize twE l oi = xE at HD SC
          generalize twL l oi = kl at HD FN SC
          rcases SC.out with ⟨hx, hct⟩ | ⟨hx, hct⟩
          · have HCT := Lib.hid (show ((cnt m kl : Nat) : Int) = (c0 : Int) by rw [hct])
            clear hct SC
            have HC := Lib.hid (show ∀ (W : World) (B : Nat) (v : Value), Owns W B v kl → Calls Try.prog 23 #[v, m.val] W fun e w' => e = .returned (.int .i64 ((c0 : Int))) ∧ Below W.heap.size W w' from fun W B v h => by
              have := count_any B v kl m W h (by have := FN.out.le; omega)
              rw [HCT.out] at this
              exact this)
            have hL9 : (kl).length ≤ 1000 := by have := FN.out.le; omega
            go_wp2_with fail
            go_at_call 19
            refine HD.out.mono ?_
            rintro e w8 ⟨rfl, r8, k1, k2, k3⟩
            have T8 := Lib.hid k1
            have M8 := Lib.hid (M7.out.fr k3 (by omega) (fun e => by have := (T7.out.row_lt e.symm).1; omega))
            have B8 := Lib.hid (B7.out.trans (k3.belowB T7.out (by omega)))
            have S8 := Lib.hid (S7.out.fr k3 (by omega) (fun e => by have := q4 _ e.symm; omega))
            obtain ⟨x0, x1, x2, x3, x4, x5, x6, x7, x8, x9⟩ := S8.out.all3
            obtain ⟨d0, d1, d2, d3, d4, d5, d6, d7⟩ := M8.out.all
            clear k1 k2 k3 y0 y1 y2 y3 y4 y5 y6 y7 y8 y9
            go_wp2_with fail
            have hbd : Below w8.heap.size w8 w8.drew := (Below.refl _ _).drew
            have Tz := Lib.hid (T8.out.below hbd)
            have Mz := Lib.hid (M8.out.below hbd)
            have Bz := Lib.hid (B8.out.trans (hbd.mono B8.out.size))
            clear hbd
            go_region_held3 (fun w' => w'.cell? ⟨w.heap.size, 0, none⟩ = some (.int .i64 m.kind) ∧ w'.cell? ⟨w.heap.size, 1, none⟩ = some (.int .i64 m.src) ∧ w'.cell? ⟨w.heap.size, 2, none⟩ = some (.int .i64 m.dst) ∧ w'.cell? ⟨w.heap.size, 3, none⟩ = some (.int .i64 m.epoch) ∧ w'.cell? ⟨w.heap.size, 4, none⟩ = some (.int .i64 m.seq) ∧ w'.cell? ⟨w.heap.size, 5, none⟩ = some (.int .i64 m.off) ∧ w'.cell? ⟨w.heap.size, 6, none⟩ = some (.int .i64 m.len) ∧ w'.cell? ⟨w.heap.size, 7, none⟩ = some (.string m.data))
              (first | exact Mz.out.all | exact Ma.out.all | exact Mb.out.all | fail)
              (first
                | (go_at_call 14; refine (list_any _ _ kl _ Tz.out hL9).mono ?_; rintro e wa ⟨v9, rfl, k1, k2⟩; have Ta := Lib.hid (Tz.out.below k2); have Ma := Lib.hid (Mz.out.below k2); have Ba := Lib.hid (Bz.out.trans (k2.mono Bz.out.size)); have Va := Lib.hid k1; clear k1 k2)
                | (go_at_call 23; refine (HC.out _ _ _ Va.out).mono ?_; rintro e wb ⟨rfl, k2⟩; have Tb := Lib.hid (Ta.out.below k2); have Mb := Lib.hid (Ma.out.below k2); have Bb := Lib.hid (Ba.out.trans (k2.mono Ba.out.size)); clear k2)
                | fail)
            go_wp2
            go_roundg (n - (k + 1))
            case measure => have := HG.out; omega
            case rel => exact ⟨k + 1, _, kl, by omega, rfl, by go_num, by rw [HCT.out], Tb.out, FN.out, Mb.out, Bb.out⟩
          · subst hx
            cases th with
            | true =>
              have HCT := Lib.hid (show ((cnt m kl : Nat) : Int) = (c0 : Int) + 1 by rw [hct]; simp)
              clear hct SC
              have HC := Lib.hid (show ∀ (W : World) (B : Nat) (v : Value), Owns W B v kl → Calls Try.prog 23 #[v, m.val] W fun e w' => e = .returned (.int .i64 ((c0 : Int) + 1)) ∧ Below W.heap.size W w' from fun W B v h => by
                have := count_any B v kl m W h (by have := FN.out.le; omega)
                rw [HCT.out] at this
                exact this)
              have hL9 : (kl).length ≤ 1000 := by have := FN.out.le; omega
              go_wp2_with fail
              go_at_call 19
              refine HD.out.mono ?_
              rintro e w8 ⟨rfl, r8, k1, k2, k3⟩
              have T8 := Lib.hid k1
              have M8 := Lib.hid (M7.out.fr k3 (by omega) (fun e => by have := (T7.out.row_lt e.symm).1; omega))
              have B8 := Lib.hid (B7.out.trans (k3.belowB T7.out (by omega)))
              have S8 := Lib.hid (S7.out.fr k3 (by omega) (fun e => by have := q4 _ e.symm; omega))
              obtain ⟨x0, x1, x2, x3, x4, x5, x6, x7, x8, x9⟩ := S8.out.all3
              obtain ⟨d0, d1, d2, d3, d4, d5, d6, d7⟩ := M8.out.all
              clear k1 k2 k3 y0 y1 y2 y3 y4 y5 y6 y7 y8 y9
              go_wp2_with fail
              have hbd : Below w8.heap.size w8 w8.drew := (Below.refl _ _).drew
              have Tz := Lib.hid (T8.out.below hbd)
              have Mz := Lib.hid (M8.out.below hbd)
              have Bz := Lib.hid (B8.out.trans (hbd.mono B8.out.size))
              clear hbd
              go_region_held3 (fun w' => w'.cell? ⟨w.heap.size, 0, none⟩ = some (.int .i64 m.kind) ∧ w'.cell? ⟨w.heap.size, 1, none⟩ = some (.int .i64 m.src) ∧ w'.cell? ⟨w.heap.size, 2, none⟩ = some (.int .i64 m.dst) ∧ w'.cell? ⟨w.heap.size, 3, none⟩ = some (.int .i64 m.epoch) ∧ w'.cell? ⟨w.heap.size, 4, none⟩ = some (.int .i64 m.seq) ∧ w'.cell? ⟨w.heap.size, 5, none⟩ = some (.int .i64 m.off) ∧ w'.cell? ⟨w.heap.size, 6, none⟩ = some (.int .i64 m.len) ∧ w'.cell? ⟨w.heap.size, 7, none⟩ = some (.string m.data))
                (first | exact Mz.out.all | exact Ma.out.all | exact Mb.out.all | fail)
                (first
                  | (go_at_call 14; refine (list_any _ _ kl _ Tz.out hL9).mono ?_; rintro e wa ⟨v9, rfl, k1, k2⟩; have Ta := Lib.hid (Tz.out.below k2); have Ma := Lib.hid (Mz.out.below k2); have Ba := Lib.hid (Bz.out.trans (k2.mono Bz.out.size)); have Va := Lib.hid k1; clear k1 k2)
                  | (go_at_call 23; refine (HC.out _ _ _ Va.out).mono ?_; rintro e wb ⟨rfl, k2⟩; have Tb := Lib.hid (Ta.out.below k2); have Mb := Lib.hid (Ma.out.below k2); have Bb := Lib.hid (Ba.out.trans (k2.mono Ba.out.size)); clear k2)
                  | fail)
              go_wp2
              go_roundg (n - (k + 1))
              case measure => have := HG.out; omega
              case rel => exact ⟨k + 1, _, kl, by omega, rfl, by go_num, by rw [HCT.out], Tb.out, FN.out, Mb.out, Bb.out⟩
            | false =>
              have HCT := Lib.hid (show ((cnt m kl : Nat) : Int) = (c0 : Int) by rw [hct]; simp)
              clear hct SC
              have HC := Lib.hid (show ∀ (W : World) (B : Nat) (v : Value), Owns W B v kl → Calls Try.prog 23 #[v, m.val] W fun e w' => e = .returned (.int .i64 ((c0 : Int))) ∧ Below W.heap.size W w' from fun W B v h => by
                have := count_any B v kl m W h (by have := FN.out.le; omega)
                rw [HCT.out] at this
                exact this)
              have hL9 : (kl).length ≤ 1000 := by have := FN.out.le; omega
              go_wp2_with fail
              go_at_call 19
              refine HD.out.mono ?_
              rintro e w8 ⟨rfl, r8, k1, k2, k3⟩
              have T8 := Lib.hid k1
              have M8 := Lib.hid (M7.out.fr k3 (by omega) (fun e => by have := (T7.out.row_lt e.symm).1; omega))
              have B8 := Lib.hid (B7.out.trans (k3.belowB T7.out (by omega)))
              have S8 := Lib.hid (S7.out.fr k3 (by omega) (fun e => by have := q4 _ e.symm; omega))
              obtain ⟨x0, x1, x2, x3, x4, x5, x6, x7, x8, x9⟩ := S8.out.all3
              obtain ⟨d0, d1, d2, d3, d4, d5, d6, d7⟩ := M8.out.all
              clear k1 k2 k3 y0 y1 y2 y3 y4 y5 y6 y7 y8 y9
              go_wp2_with fail
              have hbd : Below w8.heap.size w8 w8.drew := (Below.refl _ _).drew
              have Tz := Lib.hid (T8.out.below hbd)
              have Mz := Lib.hid (M8.out.below hbd)
              have Bz := Lib.hid (B8.out.trans (hbd.mono B8.out.size))
              clear hbd
              go_region_held3 (fun w' => w'.cell? ⟨w.heap.size, 0, none⟩ = some (.int .i64 m.kind) ∧ w'.cell? ⟨w.heap.size, 1, none⟩ = some (.int .i64 m.src) ∧ w'.cell? ⟨w.heap.size, 2, none⟩ = some (.int .i64 m.dst) ∧ w'.cell? ⟨w.heap.size, 3, none⟩ = some (.int .i64 m.epoch) ∧ w'.cell? ⟨w.heap.size, 4, none⟩ = some (.int .i64 m.seq) ∧ w'.cell? ⟨w.heap.size, 5, none⟩ = some (.int .i64 m.off) ∧ w'.cell? ⟨w.heap.size, 6, none⟩ = some (.int .i64 m.len) ∧ w'.cell? ⟨w.heap.size, 7, none⟩ = some (.string m.data))
                (first | exact Mz.out.all | exact Ma.out.all | exact Mb.out.all | fail)
                (first
                  | (go_at_call 14; refine (list_any _ _ kl _ Tz.out hL9).mono ?_; rintro e wa ⟨v9, rfl, k1, k2⟩; have Ta := Lib.hid (Tz.out.below k2); have Ma := Lib.hid (Mz.out.below k2); have Ba := Lib.hid (Bz.out.trans (k2.mono Bz.out.size)); have Va := Lib.hid k1; clear k1 k2)
                  | (go_at_call 23; refine (HC.out _ _ _ Va.out).mono ?_; rintro e wb ⟨rfl, k2⟩; have Tb := Lib.hid (Ta.out.below k2); have Mb := Lib.hid (Ma.out.below k2); have Bb := Lib.hid (Ba.out.trans (k2.mono Ba.out.size)); clear k2)
                  | fail)
              go_wp2
              go_roundg (n - (k + 1))
              case measure => have := HG.out; omega
              case rel => exact ⟨k + 1, _, kl, by omega, rfl, by go_num, by rw [HCT.out], Tb.out, FN.out, Mb.out, Bb.out⟩
        by_cases h3 : kk = 3
        · subst h3
          have HD := Lib.hid (drop_any (w.heap.size + 1) r l oi wc T7.out (by omega))
          have FN := Lib.hid (F4.out.take oi)
          cases th with
          | true =>
            have hc := take_yes_cnt HTH.out
            generalize tkE l oi = xE at HD hc
            generalize tkL l oi = kl at HD FN hc
            obtain ⟨hx, -, hct⟩ := hc
            subst hx
            have HCT := Lib.hid (show ((cnt m kl : Nat) : Int) = (c0 : Int) - 1 by rw [← HC0.out, hct]; omega)
            clear hct
            have HC := Lib.hid (show ∀ (W : World) (B : Nat) (v : Value), Owns W B v kl → Calls Try.prog 23 #[v, m.val] W fun e w' => e = .returned (.int .i64 ((c0 : Int) - 1)) ∧ Below W.heap.size W w' from fun W B v h => by
              have := count_any B v kl m W h (by have := FN.out.le; omega)
              rw [HCT.out] at this
              exact this)
            have hL9 : (kl).length ≤ 1000 := by have := FN.out.le; omega
            go_wp2_with fail
            go_at_call 20
            refine HD.out.mono ?_
            rintro e w8 ⟨rfl, r8, k1, k2, k3⟩
            have T8 := Lib.hid k1
            have M8 := Lib.hid (M7.out.fr k3 (by omega) (fun e => by have := (T7.out.row_lt e.symm).1; omega))
            have B8 := Lib.hid (B7.out.trans (k3.belowB T7.out (by omega)))
            have S8 := Lib.hid (S7.out.fr k3 (by omega) (fun e => by have := q4 _ e.symm; omega))
            obtain ⟨x0, x1, x2, x3, x4, x5, x6, x7, x8, x9⟩ := S8.out.all3
            obtain ⟨d0, d1, d2, d3, d4, d5, d6, d7⟩ := M8.out.all
            clear k1 k2 k3 y0 y1 y2 y3 y4 y5 y6 y7 y8 y9
            go_wp2_with fail
            have hbd : Below w8.heap.size w8 w8.drew := (Below.refl _ _).drew
            have Tz := Lib.hid (T8.out.below hbd)
            have Mz := Lib.hid (M8.out.below hbd)
            have Bz := Lib.hid (B8.out.trans (hbd.mono B8.out.size))
            clear hbd
            go_region_held3 (fun w' => w'.cell? ⟨w.heap.size, 0, none⟩ = some (.int .i64 m.kind) ∧ w'.cell? ⟨w.heap.size, 1, none⟩ = some (.int .i64 m.src) ∧ w'.cell? ⟨w.heap.size, 2, none⟩ = some (.int .i64 m.dst) ∧ w'.cell? ⟨w.heap.size, 3, none⟩ = some (.int .i64 m.epoch) ∧ w'.cell? ⟨w.heap.size, 4, none⟩ = some (.int .i64 m.seq) ∧ w'.cell? ⟨w.heap.size, 5, none⟩ = some (.int .i64 m.off) ∧ w'.cell? ⟨w.heap.size, 6, none⟩ = some (.int .i64 m.len) ∧ w'.cell? ⟨w.heap.size, 7, none⟩ = some (.string m.data))
              (first | exact Mz.out.all | exact Ma.out.all | exact Mb.out.all | fail)
              (first
                | (go_at_call 14; refine (list_any _ _ kl _ Tz.out hL9).mono ?_; rintro e wa ⟨v9, rfl, k1, k2⟩; have Ta := Lib.hid (Tz.out.below k2); have Ma := Lib.hid (Mz.out.below k2); have Ba := Lib.hid (Bz.out.trans (k2.mono Bz.out.size)); have Va := Lib.hid k1; clear k1 k2)
                | (go_at_call 23; refine (HC.out _ _ _ Va.out).mono ?_; rintro e wb ⟨rfl, k2⟩; have Tb := Lib.hid (Ta.out.below k2); have Mb := Lib.hid (Ma.out.below k2); have Bb := Lib.hid (Ba.out.trans (k2.mono Ba.out.size)); clear k2)
                | fail)
            go_wp2
            go_roundg (n - (k + 1))
            case measure => have := HG.out; omega
            case rel => exact ⟨k + 1, _, kl, by omega, rfl, by go_num, by rw [HCT.out], Tb.out, FN.out, Mb.out, Bb.out⟩
          | false =>
            have hc := take_no_cnt HTH.out
            generalize tkE l oi = xE at HD hc
            generalize tkL l oi = kl at HD FN hc
            obtain ⟨hct, hx⟩ := hc
            have HCT := Lib.hid (show ((cnt m kl : Nat) : Int) = (c0 : Int) by rw [← HC0.out, hct])
            clear hct
            rcases hx with hx | ⟨hx, -⟩
            · have HC := Lib.hid (show ∀ (W : World) (B : Nat) (v : Value), Owns W B v kl → Calls Try.prog 23 #[v, m.val] W fun e w' => e = .returned (.int .i64 ((c0 : Int))) ∧ Below W.heap.size W w' from fun W B v h => by
                have := count_any B v kl m W h (by have := FN.out.le; omega)
                rw [HCT.out] at this
                exact this)
              have hL9 : (kl).length ≤ 1000 := by have := FN.out.le; omega
              go_wp2_with fail
              go_at_call 20
              refine HD.out.mono ?_
              rintro e w8 ⟨rfl, r8, k1, k2, k3⟩
              have T8 := Lib.hid k1
              have M8 := Lib.hid (M7.out.fr k3 (by omega) (fun e => by have := (T7.out.row_lt e.symm).1; omega))
              have B8 := Lib.hid (B7.out.trans (k3.belowB T7.out (by omega)))
              have S8 := Lib.hid (S7.out.fr k3 (by omega) (fun e => by have := q4 _ e.symm; omega))
              obtain ⟨x0, x1, x2, x3, x4, x5, x6, x7, x8, x9⟩ := S8.out.all3
              obtain ⟨d0, d1, d2, d3, d4, d5, d6, d7⟩ := M8.out.all
              clear k1 k2 k3 y0 y1 y2 y3 y4 y5 y6 y7 y8 y9
              go_wp2_with fail
              have hbd : Below w8.heap.size w8 w8.drew := (Below.refl _ _).drew
              have Tz := Lib.hid (T8.out.below hbd)
              have Mz := Lib.hid (M8.out.below hbd)
              have Bz := Lib.hid (B8.out.trans (hbd.mono B8.out.size))
              clear hbd
              go_region_held3 (fun w' => w'.cell? ⟨w.heap.size, 0, none⟩ = some (.int .i64 m.kind) ∧ w'.cell? ⟨w.heap.size, 1, none⟩ = some (.int .i64 m.src) ∧ w'.cell? ⟨w.heap.size, 2, none⟩ = some (.int .i64 m.dst) ∧ w'.cell? ⟨w.heap.size, 3, none⟩ = some (.int .i64 m.epoch) ∧ w'.cell? ⟨w.heap.size, 4, none⟩ = some (.int .i64 m.seq) ∧ w'.cell? ⟨w.heap.size, 5, none⟩ = some (.int .i64 m.off) ∧ w'.cell? ⟨w.heap.size, 6, none⟩ = some (.int .i64 m.len) ∧ w'.cell? ⟨w.heap.size, 7, none⟩ = some (.string m.data))
                (first | exact Mz.out.all | exact Ma.out.all | exact Mb.out.all | fail)
                (first
                  | (go_at_call 14; refine (list_any _ _ kl _ Tz.out hL9).mono ?_; rintro e wa ⟨v9, rfl, k1, k2⟩; have Ta := Lib.hid (Tz.out.below k2); have Ma := Lib.hid (Mz.out.below k2); have Ba := Lib.hid (Bz.out.trans (k2.mono Bz.out.size)); have Va := Lib.hid k1; clear k1 k2)
                  | (go_at_call 23; refine (HC.out _ _ _ Va.out).mono ?_; rintro e wb ⟨rfl, k2⟩; have Tb := Lib.hid (Ta.out.below k2); have Mb := Lib.hid (Ma.out.below k2); have Bb := Lib.hid (Ba.out.trans (k2.mono Ba.out.size)); clear k2)
                  | fail)
              go_wp2
              go_roundg (n - (k + 1))
              case measure => have := HG.out; omega
              case rel => exact ⟨k + 1, _, kl, by omega, rfl, by go_num, by rw [HCT.out], Tb.out, FN.out, Mb.out, Bb.out⟩
            · subst hx
              have HC := Lib.hid (show ∀ (W : World) (B : Nat) (v : Value), Owns W B v kl → Calls Try.prog 23 #[v, m.val] W fun e w' => e = .returned (.int .i64 ((c0 : Int))) ∧ Below W.heap.size W w' from fun W B v h => by
                have := count_any B v kl m W h (by have := FN.out.le; omega)
                rw [HCT.out] at this
                exact this)
              have hL9 : (kl).length ≤ 1000 := by have := FN.out.le; omega
              go_wp2_with fail
              go_at_call 20
              refine HD.out.mono ?_
              rintro e w8 ⟨rfl, r8, k1, k2, k3⟩
              have T8 := Lib.hid k1
              have M8 := Lib.hid (M7.out.fr k3 (by omega) (fun e => by have := (T7.out.row_lt e.symm).1; omega))
              have B8 := Lib.hid (B7.out.trans (k3.belowB T7.out (by omega)))
              have S8 := Lib.hid (S7.out.fr k3 (by omega) (fun e => by have := q4 _ e.symm; omega))
              obtain ⟨x0, x1, x2, x3, x4, x5, x6, x7, x8, x9⟩ := S8.out.all3
              obtain ⟨d0, d1, d2, d3, d4, d5, d6, d7⟩ := M8.out.all
              clear k1 k2 k3 y0 y1 y2 y3 y4 y5 y6 y7 y8 y9
              go_wp2_with fail
              have hbd : Below w8.heap.size w8 w8.drew := (Below.refl _ _).drew
              have Tz := Lib.hid (T8.out.below hbd)
              have Mz := Lib.hid (M8.out.below hbd)
              have Bz := Lib.hid (B8.out.trans (hbd.mono B8.out.size))
              clear hbd
              go_region_held3 (fun w' => w'.cell? ⟨w.heap.size, 0, none⟩ = some (.int .i64 m.kind) ∧ w'.cell? ⟨w.heap.size, 1, none⟩ = some (.int .i64 m.src) ∧ w'.cell? ⟨w.heap.size, 2, none⟩ = some (.int .i64 m.dst) ∧ w'.cell? ⟨w.heap.size, 3, none⟩ = some (.int .i64 m.epoch) ∧ w'.cell? ⟨w.heap.size, 4, none⟩ = some (.int .i64 m.seq) ∧ w'.cell? ⟨w.heap.size, 5, none⟩ = some (.int .i64 m.off) ∧ w'.cell? ⟨w.heap.size, 6, none⟩ = some (.int .i64 m.len) ∧ w'.cell? ⟨w.heap.size, 7, none⟩ = some (.string m.data))
                (first | exact Mz.out.all | exact Ma.out.all | exact Mb.out.all | fail)
                (first
                  | (go_at_call 14; refine (list_any _ _ kl _ Tz.out hL9).mono ?_; rintro e wa ⟨v9, rfl, k1, k2⟩; have Ta := Lib.hid (Tz.out.below k2); have Ma := Lib.hid (Mz.out.below k2); have Ba := Lib.hid (Bz.out.trans (k2.mono Bz.out.size)); have Va := Lib.hid k1; clear k1 k2)
                  | (go_at_call 23; refine (HC.out _ _ _ Va.out).mono ?_; rintro e wb ⟨rfl, k2⟩; have Tb := Lib.hid (Ta.out.below k2); have Mb := Lib.hid (Ma.out.below k2); have Bb := Lib.hid (Ba.out.trans (k2.mono Ba.out.size)); clear k2)
                  | fail)
              go_wp2
              go_roundg (n - (k + 1))
              case measure => have := HG.out; omega
              case rel => exact ⟨k + 1, _, kl, by omega, rfl, by go_num, by rw [HCT.out], Tb.out, FN.out, Mb.out, Bb.out⟩
        by_cases h4 : kk = 4
        · subst h4
          have HD := Lib.hid (late_any (w.heap.size + 1) r l oi wc T7.out (by omega))
          have FN := Lib.hid (F4.out.late oi)
          have hct := late_cnt l oi m
          generalize tkE l oi = xE at HD
          generalize ltL l oi = kl at HD FN hct
          have HCT := Lib.hid (show ((cnt m kl : Nat) : Int) = (c0 : Int) by rw [hct, HC0.out])
          clear hct
          have HC := Lib.hid (show ∀ (W : World) (B : Nat) (v : Value), Owns W B v kl → Calls Try.prog 23 #[v, m.val] W fun e w' => e = .returned (.int .i64 ((c0 : Int))) ∧ Below W.heap.size W w' from fun W B v h => by
            have := count_any B v kl m W h (by have := FN.out.le; omega)
            rw [HCT.out] at this
            exact this)
          have hL9 : (kl).length ≤ 1000 := by have := FN.out.le; omega
          go_wp2_with fail
          go_at_call 21
          refine HD.out.mono ?_
          rintro e w8 ⟨rfl, r8, k1, k2, k3⟩
          have T8 := Lib.hid k1
          have M8 := Lib.hid (M7.out.fr k3 (by omega) (fun e => by have := (T7.out.row_lt e.symm).1; omega))
          have B8 := Lib.hid (B7.out.trans (k3.belowB T7.out (by omega)))
          have S8 := Lib.hid (S7.out.fr k3 (by omega) (fun e => by have := q4 _ e.symm; omega))
          obtain ⟨x0, x1, x2, x3, x4, x5, x6, x7, x8, x9⟩ := S8.out.all3
          obtain ⟨d0, d1, d2, d3, d4, d5, d6, d7⟩ := M8.out.all
          clear k1 k2 k3 y0 y1 y2 y3 y4 y5 y6 y7 y8 y9
          go_wp2_with fail
          have hbd : Below w8.heap.size w8 w8.drew := (Below.refl _ _).drew
          have Tz := Lib.hid (T8.out.below hbd)
          have Mz := Lib.hid (M8.out.below hbd)
          have Bz := Lib.hid (B8.out.trans (hbd.mono B8.out.size))
          clear hbd
          go_region_held3 (fun w' => w'.cell? ⟨w.heap.size, 0, none⟩ = some (.int .i64 m.kind) ∧ w'.cell? ⟨w.heap.size, 1, none⟩ = some (.int .i64 m.src) ∧ w'.cell? ⟨w.heap.size, 2, none⟩ = some (.int .i64 m.dst) ∧ w'.cell? ⟨w.heap.size, 3, none⟩ = some (.int .i64 m.epoch) ∧ w'.cell? ⟨w.heap.size, 4, none⟩ = some (.int .i64 m.seq) ∧ w'.cell? ⟨w.heap.size, 5, none⟩ = some (.int .i64 m.off) ∧ w'.cell? ⟨w.heap.size, 6, none⟩ = some (.int .i64 m.len) ∧ w'.cell? ⟨w.heap.size, 7, none⟩ = some (.string m.data))
            (first | exact Mz.out.all | exact Ma.out.all | exact Mb.out.all | fail)
            (first
              | (go_at_call 14; refine (list_any _ _ kl _ Tz.out hL9).mono ?_; rintro e wa ⟨v9, rfl, k1, k2⟩; have Ta := Lib.hid (Tz.out.below k2); have Ma := Lib.hid (Mz.out.below k2); have Ba := Lib.hid (Bz.out.trans (k2.mono Bz.out.size)); have Va := Lib.hid k1; clear k1 k2)
              | (go_at_call 23; refine (HC.out _ _ _ Va.out).mono ?_; rintro e wb ⟨rfl, k2⟩; have Tb := Lib.hid (Ta.out.below k2); have Mb := Lib.hid (Ma.out.below k2); have Bb := Lib.hid (Ba.out.trans (k2.mono Ba.out.size)); clear k2)
              | fail)
          go_wp2
          go_roundg (n - (k + 1))
          case measure => have := HG.out; omega
          case rel => exact ⟨k + 1, _, kl, by omega, rfl, by go_num, by rw [HCT.out], Tb.out, FN.out, Mb.out, Bb.out⟩
        by_cases h5 : kk = 5
        · subst h5
          have HD := Lib.hid (cut_any (w.heap.size + 1) r l oi wc T7.out (by omega))
          have FN := Lib.hid (F4.out.cut oi)
          have hct := cut_cnt l oi m
          rw [HC0.out] at hct
          unfold cutL at FN hct
          generalize l.filter (fun m => m.dst != oi && m.src != oi) = kl at HD FN hct
          generalize (l.length : Int) - (kl.length : Int) = xE at HD
          by_cases hd : m.dst = oi
          · have HCT := Lib.hid (show ((cnt m kl : Nat) : Int) = 0 by rw [hct, if_neg (by simp [hd])]; rfl)
            have hdb : (m.dst == oi) = true := by simpa using hd
            clear hct hd
            have HC := Lib.hid (show ∀ (W : World) (B : Nat) (v : Value), Owns W B v kl → Calls Try.prog 23 #[v, m.val] W fun e w' => e = .returned (.int .i64 (0)) ∧ Below W.heap.size W w' from fun W B v h => by
              have := count_any B v kl m W h (by have := FN.out.le; omega)
              rw [HCT.out] at this
              exact this)
            have hL9 : (kl).length ≤ 1000 := by have := FN.out.le; omega
            go_wp2_with fail
            go_at_call 22
            refine HD.out.mono ?_
            rintro e w8 ⟨rfl, r8, k1, k2, k3⟩
            have T8 := Lib.hid k1
            have M8 := Lib.hid (M7.out.fr k3 (by omega) (fun e => by have := (T7.out.row_lt e.symm).1; omega))
            have B8 := Lib.hid (B7.out.trans (k3.belowB T7.out (by omega)))
            have S8 := Lib.hid (S7.out.fr k3 (by omega) (fun e => by have := q4 _ e.symm; omega))
            obtain ⟨x0, x1, x2, x3, x4, x5, x6, x7, x8, x9⟩ := S8.out.all3
            obtain ⟨d0, d1, d2, d3, d4, d5, d6, d7⟩ := M8.out.all
            clear k1 k2 k3 y0 y1 y2 y3 y4 y5 y6 y7 y8 y9
            go_wp2_with fail
            have hbd : Below w8.heap.size w8 w8.drew := (Below.refl _ _).drew
            have Tz := Lib.hid (T8.out.below hbd)
            have Mz := Lib.hid (M8.out.below hbd)
            have Bz := Lib.hid (B8.out.trans (hbd.mono B8.out.size))
            clear hbd
            go_region_held3 (fun w' => w'.cell? ⟨w.heap.size, 0, none⟩ = some (.int .i64 m.kind) ∧ w'.cell? ⟨w.heap.size, 1, none⟩ = some (.int .i64 m.src) ∧ w'.cell? ⟨w.heap.size, 2, none⟩ = some (.int .i64 m.dst) ∧ w'.cell? ⟨w.heap.size, 3, none⟩ = some (.int .i64 m.epoch) ∧ w'.cell? ⟨w.heap.size, 4, none⟩ = some (.int .i64 m.seq) ∧ w'.cell? ⟨w.heap.size, 5, none⟩ = some (.int .i64 m.off) ∧ w'.cell? ⟨w.heap.size, 6, none⟩ = some (.int .i64 m.len) ∧ w'.cell? ⟨w.heap.size, 7, none⟩ = some (.string m.data))
              (first | exact Mz.out.all | exact Ma.out.all | exact Mb.out.all | fail)
              (first
                | (go_at_call 14; refine (list_any _ _ kl _ Tz.out hL9).mono ?_; rintro e wa ⟨v9, rfl, k1, k2⟩; have Ta := Lib.hid (Tz.out.below k2); have Ma := Lib.hid (Mz.out.below k2); have Ba := Lib.hid (Bz.out.trans (k2.mono Bz.out.size)); have Va := Lib.hid k1; clear k1 k2)
                | (go_at_call 23; refine (HC.out _ _ _ Va.out).mono ?_; rintro e wb ⟨rfl, k2⟩; have Tb := Lib.hid (Ta.out.below k2); have Mb := Lib.hid (Ma.out.below k2); have Bb := Lib.hid (Ba.out.trans (k2.mono Ba.out.size)); clear k2)
                | fail)
            go_wp2
            go_roundg (n - (k + 1))
            case measure => have := HG.out; omega
            case rel => exact ⟨k + 1, _, kl, by omega, rfl, by go_num, by rw [HCT.out], Tb.out, FN.out, Mb.out, Bb.out⟩
          · by_cases hs : m.src = oi
            · have HCT := Lib.hid (show ((cnt m kl : Nat) : Int) = 0 by rw [hct, if_neg (by simp [hs])]; rfl)
              have hdb : (m.dst == oi) = false := by simpa using hd
              have hsb : (m.src == oi) = true := by simpa using hs
              clear hct hd hs
              have HC := Lib.hid (show ∀ (W : World) (B : Nat) (v : Value), Owns W B v kl → Calls Try.prog 23 #[v, m.val] W fun e w' => e = .returned (.int .i64 (0)) ∧ Below W.heap.size W w' from fun W B v h => by
                have := count_any B v kl m W h (by have := FN.out.le; omega)
                rw [HCT.out] at this
                exact this)
              have hL9 : (kl).length ≤ 1000 := by have := FN.out.le; omega
              go_wp2_with fail
              go_at_call 22
              refine HD.out.mono ?_
              rintro e w8 ⟨rfl, r8, k1, k2, k3⟩
              have T8 := Lib.hid k1
              have M8 := Lib.hid (M7.out.fr k3 (by omega) (fun e => by have := (T7.out.row_lt e.symm).1; omega))
              have B8 := Lib.hid (B7.out.trans (k3.belowB T7.out (by omega)))
              have S8 := Lib.hid (S7.out.fr k3 (by omega) (fun e => by have := q4 _ e.symm; omega))
              obtain ⟨x0, x1, x2, x3, x4, x5, x6, x7, x8, x9⟩ := S8.out.all3
              obtain ⟨d0, d1, d2, d3, d4, d5, d6, d7⟩ := M8.out.all
              clear k1 k2 k3 y0 y1 y2 y3 y4 y5 y6 y7 y8 y9
              go_wp2_with fail
              have hbd : Below w8.heap.size w8 w8.drew := (Below.refl _ _).drew
              have Tz := Lib.hid (T8.out.below hbd)
              have Mz := Lib.hid (M8.out.below hbd)
              have Bz := Lib.hid (B8.out.trans (hbd.mono B8.out.size))
              clear hbd
              go_region_held3 (fun w' => w'.cell? ⟨w.heap.size, 0, none⟩ = some (.int .i64 m.kind) ∧ w'.cell? ⟨w.heap.size, 1, none⟩ = some (.int .i64 m.src) ∧ w'.cell? ⟨w.heap.size, 2, none⟩ = some (.int .i64 m.dst) ∧ w'.cell? ⟨w.heap.size, 3, none⟩ = some (.int .i64 m.epoch) ∧ w'.cell? ⟨w.heap.size, 4, none⟩ = some (.int .i64 m.seq) ∧ w'.cell? ⟨w.heap.size, 5, none⟩ = some (.int .i64 m.off) ∧ w'.cell? ⟨w.heap.size, 6, none⟩ = some (.int .i64 m.len) ∧ w'.cell? ⟨w.heap.size, 7, none⟩ = some (.string m.data))
                (first | exact Mz.out.all | exact Ma.out.all | exact Mb.out.all | fail)
                (first
                  | (go_at_call 14; refine (list_any _ _ kl _ Tz.out hL9).mono ?_; rintro e wa ⟨v9, rfl, k1, k2⟩; have Ta := Lib.hid (Tz.out.below k2); have Ma := Lib.hid (Mz.out.below k2); have Ba := Lib.hid (Bz.out.trans (k2.mono Bz.out.size)); have Va := Lib.hid k1; clear k1 k2)
                  | (go_at_call 23; refine (HC.out _ _ _ Va.out).mono ?_; rintro e wb ⟨rfl, k2⟩; have Tb := Lib.hid (Ta.out.below k2); have Mb := Lib.hid (Ma.out.below k2); have Bb := Lib.hid (Ba.out.trans (k2.mono Ba.out.size)); clear k2)
                  | fail)
              go_wp2
              go_roundg (n - (k + 1))
              case measure => have := HG.out; omega
              case rel => exact ⟨k + 1, _, kl, by omega, rfl, by go_num, by rw [HCT.out], Tb.out, FN.out, Mb.out, Bb.out⟩
            · have HCT := Lib.hid (show ((cnt m kl : Nat) : Int) = (c0 : Int) by rw [hct, if_pos (by simp [hs, hd])])
              have hdb : (m.dst == oi) = false := by simpa using hd
              have hsb : (m.src == oi) = false := by simpa using hs
              clear hct hd hs
              have HC := Lib.hid (show ∀ (W : World) (B : Nat) (v : Value), Owns W B v kl → Calls Try.prog 23 #[v, m.val] W fun e w' => e = .returned (.int .i64 ((c0 : Int))) ∧ Below W.heap.size W w' from fun W B v h => by
                have := count_any B v kl m W h (by have := FN.out.le; omega)
                rw [HCT.out] at this
                exact this)
              have hL9 : (kl).length ≤ 1000 := by have := FN.out.le; omega
              go_wp2_with fail
              go_at_call 22
              refine HD.out.mono ?_
              rintro e w8 ⟨rfl, r8, k1, k2, k3⟩
              have T8 := Lib.hid k1
              have M8 := Lib.hid (M7.out.fr k3 (by omega) (fun e => by have := (T7.out.row_lt e.symm).1; omega))
              have B8 := Lib.hid (B7.out.trans (k3.belowB T7.out (by omega)))
              have S8 := Lib.hid (S7.out.fr k3 (by omega) (fun e => by have := q4 _ e.symm; omega))
              obtain ⟨x0, x1, x2, x3, x4, x5, x6, x7, x8, x9⟩ := S8.out.all3
              obtain ⟨d0, d1, d2, d3, d4, d5, d6, d7⟩ := M8.out.all
              clear k1 k2 k3 y0 y1 y2 y3 y4 y5 y6 y7 y8 y9
              go_wp2_with fail
              have hbd : Below w8.heap.size w8 w8.drew := (Below.refl _ _).drew
              have Tz := Lib.hid (T8.out.below hbd)
              have Mz := Lib.hid (M8.out.below hbd)
              have Bz := Lib.hid (B8.out.trans (hbd.mono B8.out.size))
              clear hbd
              go_region_held3 (fun w' => w'.cell? ⟨w.heap.size, 0, none⟩ = some (.int .i64 m.kind) ∧ w'.cell? ⟨w.heap.size, 1, none⟩ = some (.int .i64 m.src) ∧ w'.cell? ⟨w.heap.size, 2, none⟩ = some (.int .i64 m.dst) ∧ w'.cell? ⟨w.heap.size, 3, none⟩ = some (.int .i64 m.epoch) ∧ w'.cell? ⟨w.heap.size, 4, none⟩ = some (.int .i64 m.seq) ∧ w'.cell? ⟨w.heap.size, 5, none⟩ = some (.int .i64 m.off) ∧ w'.cell? ⟨w.heap.size, 6, none⟩ = some (.int .i64 m.len) ∧ w'.cell? ⟨w.heap.size, 7, none⟩ = some (.string m.data))
                (first | exact Mz.out.all | exact Ma.out.all | exact Mb.out.all | fail)
                (first
                  | (go_at_call 14; refine (list_any _ _ kl _ Tz.out hL9).mono ?_; rintro e wa ⟨v9, rfl, k1, k2⟩; have Ta := Lib.hid (Tz.out.below k2); have Ma := Lib.hid (Mz.out.below k2); have Ba := Lib.hid (Bz.out.trans (k2.mono Bz.out.size)); have Va := Lib.hid k1; clear k1 k2)
                  | (go_at_call 23; refine (HC.out _ _ _ Va.out).mono ?_; rintro e wb ⟨rfl, k2⟩; have Tb := Lib.hid (Ta.out.below k2); have Mb := Lib.hid (Ma.out.below k2); have Bb := Lib.hid (Ba.out.trans (k2.mono Ba.out.size)); clear k2)
                  | fail)
              go_wp2
              go_roundg (n - (k + 1))
              case measure => have := HG.out; omega
              case rel => exact ⟨k + 1, _, kl, by omega, rfl, by go_num, by rw [HCT.out], Tb.out, FN.out, Mb.out, Bb.out⟩
        have z0 : (kk == 0) = false := by simpa using h0
        have z1 : (kk == 1) = false := by simpa using h1
        have z2 : (kk == 2) = false := by simpa using h2
        have z3 : (kk == 3) = false := by simpa using h3
        have z4 : (kk == 4) = false := by simpa using h4
        have z5 : (kk == 5) = false := by simpa using h5
        have FN := F4
        have HCT := Lib.hid (show ((cnt m l : Nat) : Int) = (c0 : Int) by rw [HC0.out])
        have T8 := T7
        have M8 := M7
        have B8 := B7
        clear h0 h1 h2 h3 h4 h5 y1 y2 y3 y4 y5 y6 y7 y8 y9
        have HC := Lib.hid (show ∀ (W : World) (B : Nat) (v : Value), Owns W B v l → Calls Try.prog 23 #[v, m.val] W fun e w' => e = .returned (.int .i64 ((c0 : Int))) ∧ Below W.heap.size W w' from fun W B v h => by
          have := count_any B v l m W h (by have := FN.out.le; omega)
          rw [HCT.out] at this
          exact this)
        have hL9 : (l).length ≤ 1000 := by have := FN.out.le; omega
        go_wp2_with fail
        have hbd : Below wc.heap.size wc wc.drew := (Below.refl _ _).drew
        have Tz := Lib.hid (T8.out.below hbd)
        have Mz := Lib.hid (M8.out.below hbd)
        have Bz := Lib.hid (B8.out.trans (hbd.mono B8.out.size))
        clear hbd
        go_region_held3 (fun w' => w'.cell? ⟨w.heap.size, 0, none⟩ = some (.int .i64 m.kind) ∧ w'.cell? ⟨w.heap.size, 1, none⟩ = some (.int .i64 m.src) ∧ w'.cell? ⟨w.heap.size, 2, none⟩ = some (.int .i64 m.dst) ∧ w'.cell? ⟨w.heap.size, 3, none⟩ = some (.int .i64 m.epoch) ∧ w'.cell? ⟨w.heap.size, 4, none⟩ = some (.int .i64 m.seq) ∧ w'.cell? ⟨w.heap.size, 5, none⟩ = some (.int .i64 m.off) ∧ w'.cell? ⟨w.heap.size, 6, none⟩ = some (.int .i64 m.len) ∧ w'.cell? ⟨w.heap.size, 7, none⟩ = some (.string m.data))
          (first | exact Mz.out.all | exact Ma.out.all | exact Mb.out.all | fail)
          (first
            | (go_at_call 14; refine (list_any _ _ l _ Tz.out hL9).mono ?_; rintro e wa ⟨v9, rfl, k1, k2⟩; have Ta := Lib.hid (Tz.out.below k2); have Ma := Lib.hid (Mz.out.below k2); have Ba := Lib.hid (Bz.out.trans (k2.mono Bz.out.size)); have Va := Lib.hid k1; clear k1 k2)
            | (go_at_call 23; refine (HC.out _ _ _ Va.out).mono ?_; rintro e wb ⟨rfl, k2⟩; have Tb := Lib.hid (Ta.out.below k2); have Mb := Lib.hid (Ma.out.below k2); have Bb := Lib.hid (Ba.out.trans (k2.mono Ba.out.size)); clear k2)
            | fail)
        go_wp2
        go_roundg (n - (k + 1))
        case measure => have := HG.out; omega
        case rel => exact ⟨k + 1, _, l, by omega, rfl, by go_num, by rw [HCT.out], Tb.out, FN.out, Mb.out, Bb.out⟩
    · have hlI : ¬ ((k : Int) < (n : Int)) := by omega
      go_wp2_with fail
      go_at_call 10
      refine (new_any _).mono ?_
      rintro e wn ⟨rfl, hBn, hbn, hzn⟩
      go_wp2_with fail
      go_at_call 11
      refine (take_new _ _ _ hBn).mono ?_
      rintro e wt ⟨rfl, hft⟩
      have hb2 := B4.out.trans ((Fr.new_below hbn hft (Nat.le_refl _) rfl).mono B4.out.size)
      have BE := Lib.hid (show Below w.heap.size w (wt.alloc (.cells M.zero.cells 31)) from hb2.alloc hb2.size _)
      clear hBn hbn hzn hft hb2
      go_wp2
      go_ret
      exact ⟨rfl, BE.out⟩
end Go.Proofs.Ythcoghgpdcnhlaa
