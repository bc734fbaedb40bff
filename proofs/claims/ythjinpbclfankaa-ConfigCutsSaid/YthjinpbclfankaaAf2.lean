/-
  after (the law's): what orders make of a new config, by contracts.
-/
import Derived.Test.YthjinpbclfankaaAft
import Derived.Laws.EntriesVeiled
import Derived.Deep.RegionWith
import Derived.Deep.CutRange
namespace Go.Proofs.Ythjinpbclfankaa
open Go.RowKit

@[reducible] def crow (c : Cf) (A1 : Option Addr) (n1 c1 : Nat) (A2 : Option Addr) (n2 c2 : Nat) : Array Value := #[.int .i64 c.e, .slice A1 n1 c1, .slice A2 n2 c2, .int .i64 c.t]
set_option maxRecDepth 100000 in
set_option maxHeartbeats 40000000 in
theorem after_any {w : World} {v : Value} {l : List Od} (h : InO w v l) (hl : l.length ≤ 9223372036854775807) :
    Calls Try.prog 12 #[v] w fun e w' => ∃ v', e = .returned v' ∧ IC w' v' (aft l) ∧ Below w.heap.size w w' := by
  obtain ⟨A, cap, rfl, hc⟩ := h
  have HO := Lib.hid hc
  clear hc
  have hb1 : Below w.heap.size w (w.alloc (.cells #[.int .i64 0, .slice none 0 0, .slice none 0 0, .int .i64 0] 26)) := (Below.refl _ _).alloc (Nat.le_refl _) _
  have hx0 := heap_alloc_new w (.cells #[.int .i64 0, .slice none 0 0, .slice none 0 0, .int .i64 0] 26)
  have HB1 := Lib.hid hb1
  have HX0 := Lib.hid hx0
  clear hb1 hx0
  go_enter Try.func12, Try.ntmps12
  go_wp2_with fail
  go_at_call 21
  refine (new12b_any _).mono ?_
  rintro e w2 ⟨v, rfl, hic, hb2, hoff⟩
  have hoN := hoff w.heap.size (by simp)
  have hoT := hic.off cf0_ok (Nat.le_refl _)
  have hNT : w.heap.size < w2.heap.size := by have := hb2.size; simp at this; omega
  have hxN := (hb2.block w.heap.size (by simp)).trans HX0.out
  have hB2 := HB1.out.trans (hb2.mono HB1.out.size)
  have hic' := hic
  obtain ⟨sv, pv, rfl, ⟨A1, c1, rfl, -⟩, ⟨A2, c2, rfl, -⟩⟩ := hic'
  have hic3 := hic.below ((Below.refl _ _).alloc (Nat.le_refl _) (.cells (crow cf0 A1 cf0.srv.length c1 A2 cf0.pts.length c2) 26))
  have hB3 := hB2.alloc hB2.size (.cells (crow cf0 A1 cf0.srv.length c1 A2 cf0.pts.length c2) 26)
  have hxN3 : (w2.alloc (.cells (crow cf0 A1 cf0.srv.length c1 A2 cf0.pts.length c2) 26)).heap[w.heap.size]? = _ := (heap_alloc_old _ _ hNT).trans hxN
  have hxT3 := heap_alloc_new w2 (.cells (crow cf0 A1 cf0.srv.length c1 A2 cf0.pts.length c2) 26)
  clear hic hb2 hoff hxN hB2 HB1 HX0
  have HON := Lib.hid hoN
  have HOT := Lib.hid hoT
  have HIC := Lib.hid hic3
  have HB := Lib.hid hB3
  have HXN := Lib.hid hxN3
  have HXT := Lib.hid hxT3
  clear hoN hoT hic3 hB3 hxN3 hxT3
  go_wp2_with fail
  go_loopw [4] (fun iv wr => ∃ (k : Nat) (A1 : Option Addr) (n1 c1 : Nat) (A2 : Option Addr) (n2 c2 : Nat), k ≤ l.length ∧ k ≤ 60 ∧ iv = .int .i64 k ∧ Below w.heap.size w wr ∧ wr.heap[w.heap.size]? = some (.cells #[.int .i64 0, .slice none 0 0, .slice none 0 0, .int .i64 0] 26 (0, 0)) ∧ wr.heap[w2.heap.size]? = some (.cells (crow (aftN l k) A1 n1 c1 A2 n2 c2) 26 (0, 0)) ∧ IC wr (.agg (crow (aftN l k) A1 n1 c1 A2 n2 c2)) (aftN l k) ∧ Off (.agg (crow (aftN l k) A1 n1 c1 A2 n2 c2)) w2.heap.size ∧ Off (.agg (crow (aftN l k) A1 n1 c1 A2 n2 c2)) w.heap.size) (fun iv _ => l.length - (intOf iv).toNat)
  case atStart => exact ⟨0, _, _, _, _, _, _, Nat.zero_le _, Nat.zero_le _, rfl, HB.out, HXN.out, HXT.out, HIC.out, HOT.out, HON.out⟩
  case round =>
    obtain ⟨k, A1, n1, c1, A2, n2, c2, hk, hk60, rfl, hb, hxN, hxT, hic, hoT, hoN⟩ := hrel
    have hkf := aftN_ok l k
    have HBr := Lib.hid hb
    have HXN := Lib.hid hxN
    have HXT := Lib.hid hxT
    have HOT := Lib.hid hoT
    have HON := Lib.hid hoN
    have HIC := Lib.hid hic
    have y0 := cell_of_row _ _ 0 _ _ _ hxT
    have y1 := cell_of_row _ _ 1 _ _ _ hxT
    have y2 := cell_of_row _ _ 2 _ _ _ hxT
    have y3 := cell_of_row _ _ 3 _ _ _ hxT
    have hTl : w2.heap.size < wr.heap.size := lt_of hxT
    by_cases hlt : k < l.length ∧ k < 60
    · obtain ⟨x, hx⟩ : ∃ y, l[k]? = some y := ⟨_, List.getElem?_eq_getElem hlt.1⟩
      obtain ⟨g, o, rfl, hg, hcl⟩ := HO.out k x hx
      obtain ⟨x0, x1, x2, x3, x4⟩ := hcl.below hb hg
      have hst := aftN_more hx
      unfold stp at hst
      have HOD := Lib.hid (hic.off hkf.1 (Nat.le_refl _))
      have HAp := Lib.hid (fun (W : World) (hW : Below wr.heap.size wr W) => apply_any (hic.below hW) (by have := hkf.1.few; omega) (by have := hkf.1.few; omega) x)
      generalize aftN l k = c at hxN hxT hic hoT hoN hkf HBr HXN HXT HOT HON HIC y0 y1 y2 y3 hst HAp HOD
      generalize apl c x = r at hst HAp
      obtain ⟨c', er⟩ := r
      have HST := Lib.hid hst
      obtain ⟨xk, xn, xm, xf, xt⟩ := x
      have d1 : decide ((k : Int) < (l.length : Int)) = true := decide_eq_true (by omega)
      have d2 : decide ((k : Int) < 60) = true := decide_eq_true (by omega)
      have hkI : (0 : Int) ≤ (k : Int) := by omega
      have hlI : (k : Int) < (l.length : Int) := by omega
      have ya : ∀ (o : Obj) (j : Nat) (u : Value), wr.cell? ⟨w2.heap.size, j, none⟩ = some u → (wr.alloc o).cell? ⟨w2.heap.size, j, none⟩ = some u := fun o j u h => (World.cell?_of_block (heap_alloc_old _ _ (show w2.heap.size < wr.heap.size from hTl))).trans h
      have xa : ∀ (o' : Obj) (j : Nat) (u : Value), wr.cell? ⟨g, j, none⟩ = some u → (wr.alloc o').cell? ⟨g, j, none⟩ = some u := fun o' j u h => (World.cell?_of_block (heap_alloc_old _ _ (show g < wr.heap.size from Nat.lt_of_lt_of_le hg hb.size))).trans h
      have ya0 := fun o => ya o _ _ y0
      have ya1 := fun o => ya o _ _ y1
      have ya2 := fun o => ya o _ _ y2
      have ya3 := fun o => ya o _ _ y3
      have xa0 := fun o => xa o _ _ x0
      have xa1 := fun o => xa o _ _ x1
      have xa2 := fun o => xa o _ _ x2
      have xa3 := fun o => xa o _ _ x3
      have xa4 := fun o => xa o _ _ x4
      clear hxN hxT hic hoT hoN hst hkf hcl hx hb ya xa
      go_wp2_with fail
      go_cut [5, 6] from 18 to 27 (fun dv ev wx => ∃ (D : Nat) (A6 : Option Addr) (n6 d6 : Nat) (A7 : Option Addr) (n7 d7 : Nat), dv = .pointer (some ⟨D, 0, none⟩) ∧ ev = .int .i64 er ∧ wx.heap[D]? = some (.cells (crow c' A6 n6 d6 A7 n7 d7) 26 (0, 0)) ∧ IC wx (.agg (crow c' A6 n6 d6 A7 n7 d7)) c' ∧ Off (.agg (crow c' A6 n6 d6 A7 n7 d7)) w2.heap.size ∧ Off (.agg (crow c' A6 n6 d6 A7 n7 d7)) w.heap.size ∧ Below wr.heap.size wr wx)
      case first =>
        go_region_with (first
          | (go_at_call 13; (refine (HAp.out _ (Below.drew (Below.refl _ _))).mono ?_); rintro e w6 ⟨v6, rfl, hic6, hb6, hoff6⟩; (have hB6 : Below wr.heap.size wr w6 := (Below.drew (Below.refl _ _)).trans hb6); (have q1 := hoff6 w2.heap.size hTl HOT.out); (have q2 := hoff6 w.heap.size (Nat.lt_trans hNT hTl) HON.out); (have hic6' := hic6); (obtain ⟨sv6, pv6, rfl, ⟨A6, d6, rfl, -⟩, ⟨A7, d7, rfl, -⟩⟩ := hic6'); have Q1 := Lib.hid q1; have Q2 := Lib.hid q2; have I6 := Lib.hid hic6; have B6 := Lib.hid hB6; clear q1 q2 hic6 hB6 hb6 hoff6)
          | (go_at_call 13; (refine (HAp.out _ (((Below.refl _ _).alloc (Nat.le_refl _) (.cells #[.int .i64 0, .slice none 0 0, .slice none 0 0, .int .i64 0] 26)).drew)).mono ?_); rintro e w6 ⟨v6, rfl, hic6, hb6, hoff6⟩; (have hB6 : Below wr.heap.size wr w6 := (((Below.refl _ _).alloc (Nat.le_refl _) (.cells #[.int .i64 0, .slice none 0 0, .slice none 0 0, .int .i64 0] 26)).drew).trans (hb6.mono (by simp))); (have q1 := hoff6 w2.heap.size (by simp; omega) HOT.out); (have q2 := hoff6 w.heap.size (by simp; omega) HON.out); (have q3 := hoff6 wr.heap.size (by simp) HOD.out); (have hxD := (hb6.block wr.heap.size (by simp)).trans (heap_alloc_new wr (.cells #[.int .i64 0, .slice none 0 0, .slice none 0 0, .int .i64 0] 26))); (have hic6' := hic6); (obtain ⟨sv6, pv6, rfl, ⟨A6, d6, rfl, -⟩, ⟨A7, d7, rfl, -⟩⟩ := hic6'); have z0 := cell_of_row _ _ 0 _ _ _ hxD; have z1 := cell_of_row _ _ 1 _ _ _ hxD; have z2 := cell_of_row _ _ 2 _ _ _ hxD; have z3 := cell_of_row _ _ 3 _ _ _ hxD; (have tf : ∀ j, w6.frozen? ⟨wr.heap.size, j, none⟩ = false := fun j => by unfold World.frozen?; simp only [hxD]; simp); have tf0 := tf 0; have tf1 := tf 1; have tf2 := tf 2; have tf3 := tf 3; (obtain ⟨r1, r2⟩ := store4 hxD (.int .i64 c'.e) (.slice A6 c'.srv.length d6) (.slice A7 c'.pts.length d7) (.int .i64 c'.t)); (have hic7 := hic6.other q3 r2.size (fun q g1 g2 => r2.block q g1 (fun e => g2 (by injection e)))); (have hB7 := hB6.grown r2 hB6.size (fun q hq => by cases hq; exact Nat.le_refl _)); have Q1 := Lib.hid q1; have Q2 := Lib.hid q2; have I6 := Lib.hid hic7; have B6 := Lib.hid hB7; have R6 := Lib.hid r1; clear q1 q2 q3 hic6 hic7 hB6 hB7 hb6 hoff6 hxD tf r1 r2))
        all_goals
          go_wp2_with fail
          go_meet
          first
            | exact ⟨_, A6, _, d6, A7, _, d7, rfl, rfl, R6.out, I6.out, Q1.out, Q2.out, B6.out⟩
            | exact ⟨_, A6, _, d6, A7, _, d7, rfl, rfl, heap_alloc_new _ _, I6.out.below ((Below.refl _ _).alloc (Nat.le_refl _) _), Q1.out, Q2.out, B6.out.alloc B6.out.size _⟩
      case rest =>
        obtain ⟨D, A6, n6, d6, A7, n7, d7, rfl, rfl, hxD, hicD, q1, q2, hbD⟩ := hcut
        have hxT := (hbD.block _ hTl).trans HXT.out
        have hxN := (hbD.block _ (Nat.lt_trans hNT hTl)).trans HXN.out
        have hB9 := HBr.out.trans (hbD.mono HBr.out.size)
        have z0 := cell_of_row _ _ 0 _ _ _ hxD
        have z1 := cell_of_row _ _ 1 _ _ _ hxD
        have z2 := cell_of_row _ _ 2 _ _ _ hxD
        have z3 := cell_of_row _ _ 3 _ _ _ hxD
        clear y0 y1 y2 y3 HXT HXN HBr
        have y0 := cell_of_row _ _ 0 _ _ _ hxT
        have y1 := cell_of_row _ _ 1 _ _ _ hxT
        have y2 := cell_of_row _ _ 2 _ _ _ hxT
        have y3 := cell_of_row _ _ 3 _ _ _ hxT
        have tf : ∀ j, wc.frozen? ⟨w2.heap.size, j, none⟩ = false := fun j => by unfold World.frozen?; simp only [hxT]; simp
        have tf0 := tf 0
        have tf1 := tf 1
        have tf2 := tf 2
        have tf3 := tf 3
        have HBD := Lib.hid hbD
        have HICo := Lib.hid (HIC.out.below hbD)
        clear hxD tf HAp HIC hbD
        by_cases her : er = 0
        · have e1 : (er == 0) = true := by simpa using her
          rw [if_pos her] at HST
          obtain ⟨r1, r2⟩ := store4 hxT (.int .i64 c'.e) (.slice A6 n6 d6) (.slice A7 n7 d7) (.int .i64 c'.t)
          have hxN' := (r2.block _ (lt_of hxN) (fun e => by injection e with e; omega)).trans hxN
          have hic' := hicD.other q1 r2.size (fun q g1 g2 => r2.block q g1 (fun e => g2 (by injection e)))
          have hB10 := hB9.grown r2 hB9.size (fun q hq => by cases hq; omega)
          have R1 := Lib.hid r1
          have RN := Lib.hid hxN'
          have RI := Lib.hid hic'
          have RB := Lib.hid hB10
          have Q1 := Lib.hid q1
          have Q2 := Lib.hid q2
          clear r1 r2 hxN' hic' hB10 q1 q2 hxT hxN hB9 hicD her
          go_wp2_with fail
          go_roundw
          case rel =>
            refine ⟨k + 1, A6, n6, d6, A7, n7, d7, by omega, by omega, by go_num, RB.out, RN.out, ?_⟩
            rw [HST.out]
            exact ⟨R1.out, RI.out, Q1.out, Q2.out⟩
          case measure => simp only [intOf]; omega
        · have e1 : (er == 0) = false := by simpa using her
          rw [if_neg her] at HST
          have RN := Lib.hid hxN
          have RT := Lib.hid hxT
          have RB := Lib.hid hB9
          clear hxT hxN hB9 hicD her q1 q2
          go_wp2_with fail
          go_roundw
          case rel =>
            refine ⟨k + 1, A1, n1, c1, A2, n2, c2, by omega, by omega, by go_num, RB.out, RN.out, ?_⟩
            rw [HST.out]
            exact ⟨RT.out, HICo.out, HOT.out, HON.out⟩
          case measure => simp only [intOf]; omega
    · have hend : k = l.length ∨ k = 60 := by omega
      rw [aft_all hend hk60] at hxT hic hoN HXT y0 y1 y2 y3
      have t0 := cell_of_row _ _ 0 _ _ _ hxN
      have t1 := cell_of_row _ _ 1 _ _ _ hxN
      have t2 := cell_of_row _ _ 2 _ _ _ hxN
      have t3 := cell_of_row _ _ 3 _ _ _ hxN
      have tf : ∀ j, wr.frozen? ⟨w.heap.size, j, none⟩ = false := fun j => by unfold World.frozen?; simp only [hxN]; simp
      have tf0 := tf 0
      have tf1 := tf 1
      have tf2 := tf 2
      have tf3 := tf 3
      obtain ⟨r1, r2⟩ := store4 hxN (.int .i64 (aft l).e) (.slice A1 n1 c1) (.slice A2 n2 c2) (.int .i64 (aft l).t)
      have hicf := hic.other hoN r2.size (fun q g1 g2 => r2.block q g1 (fun e => g2 (by injection e)))
      have hbf := hb.grown r2 hb.size (fun q hq => by cases hq; exact Nat.le_refl _)
      have R1 := Lib.hid r1
      have RI := Lib.hid hicf
      have RB := Lib.hid hbf
      clear HOT HON HIC HXT HXN HBr hic hoN hoT hxT hxN r1 r2 hicf hbf tf hb hkf
      by_cases hlk : k < l.length
      · have d1 : decide ((k : Int) < (l.length : Int)) = true := decide_eq_true (by omega)
        have d2 : decide ((k : Int) < 60) = false := decide_eq_false (by omega)
        go_wp2_with fail
        refine bodyPost_ret (results_cell_row rfl _ _ w.heap.size 26 (crow (aft l) A1 n1 c1 A2 n2 c2) (0, 0) _ rfl R1.out Try.underlying26 rfl (by kernel_rfl)) rfl ?_
        exact ⟨_, rfl, RI.out, RB.out⟩
      · have d1 : decide ((k : Int) < (l.length : Int)) = false := decide_eq_false (by omega)
        go_wp2_with fail
        refine bodyPost_ret (results_cell_row rfl _ _ w.heap.size 26 (crow (aft l) A1 n1 c1 A2 n2 c2) (0, 0) _ rfl R1.out Try.underlying26 rfl (by kernel_rfl)) rfl ?_
        exact ⟨_, rfl, RI.out, RB.out⟩
end Go.Proofs.Ythjinpbclfankaa
