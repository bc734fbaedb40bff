/-
  ConfigApplies: the law answers true, whatever its arguments.
-/
import Derived.Test.YthjinpbclfankaaBox12
import Derived.Laws.EntriesVeiled
import Derived.Deep.RegionHeld3
import Derived.Deep.CutRange
namespace Go.Proofs.Ythjinpbclfankaa
open Go.RowKit

set_option maxRecDepth 100000 in
set_option maxHeartbeats 8000000 in
theorem appliesLaw_any {w : World} {v v1 : Value} {l : List Od} {c : Cf} (hO : InO w v l) (hl : l.length ≤ 9223372036854775807) (hC : IC w v1 c) (hs : c.srv.length ≤ 9223372036854775807) (hp : c.pts.length ≤ 9223372036854775807) (o : Od) :
    Calls Try.prog 3 #[v, v1, o.val] w fun e w' => e = .returned (.bool true) ∧ Below w.heap.size w w' := by
  obtain ⟨ok, n, m, f, t⟩ := o
  show Calls _ _ #[_, _, .agg #[.int .i64 ok, .int .i64 n, .int .i64 m, .int .i64 f, .int .i64 t]] w _
  have hS : ∃ A cap, v = .slice A l.length cap := by (obtain ⟨A, cap, e, -⟩ := hO; exact ⟨A, cap, e⟩)
  obtain ⟨A, cap, rfl⟩ := hS
  have hC2 := hC
  obtain ⟨sv, pv, rfl, ⟨Ac1, cc1, rfl, -⟩, ⟨Ac2, cc2, rfl, -⟩⟩ := hC2
  have hw1 : Below w.heap.size w (w.alloc (.cells #[.int .i64 c.e, .slice Ac1 c.srv.length cc1, .slice Ac2 c.pts.length cc2, .int .i64 c.t] 26)) := (Below.refl _ _).alloc (Nat.le_refl _) _
  have hw2 : Below w.heap.size w ((w.alloc (.cells #[.int .i64 c.e, .slice Ac1 c.srv.length cc1, .slice Ac2 c.pts.length cc2, .int .i64 c.t] 26)).alloc (.cells #[.int .i64 ok, .int .i64 n, .int .i64 m, .int .i64 f, .int .i64 t] 30)) := hw1.alloc hw1.size _
  have hr : ((w.alloc (.cells #[.int .i64 c.e, .slice Ac1 c.srv.length cc1, .slice Ac2 c.pts.length cc2, .int .i64 c.t] 26)).alloc (.cells #[.int .i64 ok, .int .i64 n, .int .i64 m, .int .i64 f, .int .i64 t] 30)).heap[w.heap.size + 1]? = some (.cells #[.int .i64 ok, .int .i64 n, .int .i64 m, .int .i64 f, .int .i64 t] 30 (0, 0)) := by
    have := heap_alloc_new (w.alloc (.cells #[.int .i64 c.e, .slice Ac1 c.srv.length cc1, .slice Ac2 c.pts.length cc2, .int .i64 c.t] 26)) (.cells #[.int .i64 ok, .int .i64 n, .int .i64 m, .int .i64 f, .int .i64 t] 30)
    rw [show (w.alloc (.cells #[.int .i64 c.e, .slice Ac1 c.srv.length cc1, .slice Ac2 c.pts.length cc2, .int .i64 c.t] 26)).heap.size = w.heap.size + 1 by simp] at this
    exact this
  have Hc0 := Lib.hid ((HC4.made hC 26).below ((Below.refl _ _).alloc (Nat.le_refl _) (.cells #[.int .i64 ok, .int .i64 n, .int .i64 m, .int .i64 f, .int .i64 t] 30)))
  have Ro0 := Lib.hid hr
  clear hr
  have HAf := Lib.hid (fun (W : World) (hW : Below ((w.alloc (.cells #[.int .i64 c.e, .slice Ac1 c.srv.length cc1, .slice Ac2 c.pts.length cc2, .int .i64 c.t] 26)).alloc (.cells #[.int .i64 ok, .int .i64 n, .int .i64 m, .int .i64 f, .int .i64 t] 30)).heap.size ((w.alloc (.cells #[.int .i64 c.e, .slice Ac1 c.srv.length cc1, .slice Ac2 c.pts.length cc2, .int .i64 c.t] 26)).alloc (.cells #[.int .i64 ok, .int .i64 n, .int .i64 m, .int .i64 f, .int .i64 t] 30)) W) => after_any ((hO.below hw2).below hW) hl)
  have HB0 := Lib.hid (Below.refl ((w.alloc (.cells #[.int .i64 c.e, .slice Ac1 c.srv.length cc1, .slice Ac2 c.pts.length cc2, .int .i64 c.t] 26)).alloc (.cells #[.int .i64 ok, .int .i64 n, .int .i64 m, .int .i64 f, .int .i64 t] 30)).heap.size ((w.alloc (.cells #[.int .i64 c.e, .slice Ac1 c.srv.length cc1, .slice Ac2 c.pts.length cc2, .int .i64 c.t] 26)).alloc (.cells #[.int .i64 ok, .int .i64 n, .int .i64 m, .int .i64 f, .int .i64 t] 30)))
  have HW1 := Lib.hid hw2
  clear hO hC hw1 hw2
  by_cases q1 : c.srv.length ≤ 20
  case neg =>
    have d1 : decide ((20 : Int) < (c.srv.length : Int)) = true := decide_eq_true (by omega)
    go_enter Try.func3, Try.ntmps3
    go_wp2_with fail
    go_at_call 8
    refine (shown_any _).mono ?_
    rintro e W1 ⟨rfl, hb⟩
    have HBz := Lib.hid (HW1.out.trans (hb.mono HW1.out.size))
    clear hb
    go_wp2_with fail
    go_ret
    exact ⟨rfl, HBz.out⟩
  case pos =>
  have d1 : decide ((20 : Int) < (c.srv.length : Int)) = false := decide_eq_false (by omega)
  by_cases q2 : c.pts.length ≤ 300
  case neg =>
    have d2 : decide ((300 : Int) < (c.pts.length : Int)) = true := decide_eq_true (by omega)
    go_enter Try.func3, Try.ntmps3
    go_wp2_with fail
    go_at_call 8
    refine (shown_any _).mono ?_
    rintro e W1 ⟨rfl, hb⟩
    have HBz := Lib.hid (HW1.out.trans (hb.mono HW1.out.size))
    clear hb
    go_wp2_with fail
    go_ret
    exact ⟨rfl, HBz.out⟩
  case pos =>
  have d2 : decide ((300 : Int) < (c.pts.length : Int)) = false := decide_eq_false (by omega)
  have hok := (aft_ok l).1
  have hfew := hok.few
  have hae := (aft_ok l).2
  generalize aft l = d at HAf hok hfew hae
  obtain ⟨ck, hck⟩ : ∃ q, chk c = q := ⟨_, rfl⟩
  have hxo := apl_ok hok ⟨ok, n, m, f, t⟩
  have hxf := apl_few d ⟨ok, n, m, f, t⟩
  obtain ⟨⟨x, er⟩, hap⟩ : ∃ r, apl d ⟨ok, n, m, f, t⟩ = r := ⟨_, rfl⟩
  rw [hap] at hxo hxf
  have hzf := apl_few c ⟨ok, n, m, f, t⟩
  obtain ⟨⟨z, gr⟩, haq⟩ : ∃ r, apl c ⟨ok, n, m, f, t⟩ = r := ⟨_, rfl⟩
  rw [haq] at hzf
  replace hxf : (x.srv.length = 0 ∨ 2 ≤ x.srv.length) ∧ x.srv.length ≤ 8 ∧ x.pts.length ≤ 256 := hxf
  replace hzf : (z.srv.length = 0 ∨ 2 ≤ z.srv.length) ∧ z.srv.length ≤ 8 ∧ z.pts.length ≤ 256 := hzf
  replace hxo : er = 0 → x.ok ∧ x.e = d.e + 1 := fun h => ⟨(hxo h).1, (hxo h).2.1⟩
  have HCk := Lib.hid (fun (W : World) (u : Value) (h : IC W u c) => show Calls Try.prog 9 #[u] W fun e w' => e = .returned (.int .i64 ck) ∧ Below W.heap.size W w' by (have := check_any h (by omega) (by omega); rw [hck] at this; exact this))
  have HRk := Lib.hid (fun (W : World) (u : Value) (h : IC W u c) => show Calls Try.prog 10 #[u] W fun e w' => e = .returned (.int .i64 ck) ∧ Below W.heap.size W w' by (have := rcheck_any h (by omega) (by omega); rw [hck] at this; exact this))
  have HCd := Lib.hid (fun (W : World) (u : Value) (h : IC W u d) => show Calls Try.prog 9 #[u] W fun e w' => e = .returned (.int .i64 0) ∧ Below W.heap.size W w' by (have := check_any h (by omega) (by omega); rw [chk_ok hok] at this; exact this))
  have HAp := Lib.hid (fun (W : World) (u : Value) (h : IC W u d) => show Calls Try.prog 13 #[u, .agg #[.int .i64 ok, .int .i64 n, .int .i64 m, .int .i64 f, .int .i64 t]] W fun e w' => ∃ v', e = .returned (.tuple #[v', .int .i64 er]) ∧ IC w' v' x ∧ Below W.heap.size W w' ∧ OffK W u v' by (have := apply_any h (by omega) (by omega) ⟨ok, n, m, f, t⟩; rw [hap] at this; exact this))
  have HRp := Lib.hid (fun (W : World) (u : Value) (h : IC W u d) => show Calls Try.prog 14 #[u, .agg #[.int .i64 ok, .int .i64 n, .int .i64 m, .int .i64 f, .int .i64 t]] W fun e w' => ∃ v', e = .returned (.tuple #[v', .int .i64 er]) ∧ IC w' v' x ∧ Below W.heap.size W w' ∧ OffK W u v' by (have := rapply_any h (by omega) (by omega) ⟨ok, n, m, f, t⟩; rw [hap] at this; exact this))
  have HAq := Lib.hid (fun (W : World) (u : Value) (h : IC W u c) => show Calls Try.prog 13 #[u, .agg #[.int .i64 ok, .int .i64 n, .int .i64 m, .int .i64 f, .int .i64 t]] W fun e w' => ∃ v', e = .returned (.tuple #[v', .int .i64 gr]) ∧ IC w' v' z ∧ Below W.heap.size W w' ∧ OffK W u v' by (have := apply_any h (by omega) (by omega) ⟨ok, n, m, f, t⟩; rw [haq] at this; exact this))
  have HRq := Lib.hid (fun (W : World) (u : Value) (h : IC W u c) => show Calls Try.prog 14 #[u, .agg #[.int .i64 ok, .int .i64 n, .int .i64 m, .int .i64 f, .int .i64 t]] W fun e w' => ∃ v', e = .returned (.tuple #[v', .int .i64 gr]) ∧ IC w' v' z ∧ Below W.heap.size W w' ∧ OffK W u v' by (have := rapply_any h (by omega) (by omega) ⟨ok, n, m, f, t⟩; rw [haq] at this; exact this))
  have HFx := Lib.hid hxf
  have HFz := Lib.hid hzf
  have HXO := Lib.hid hxo
  obtain ⟨-, hx1, hx2⟩ := hxf
  obtain ⟨-, hz1, hz2⟩ := hzf
  obtain ⟨hd1, hd2, -⟩ := hfew
  obtain ⟨ha1, ha2⟩ := hae
  have ek : (ck != ck) = false := by simp
  have ee : (er != er) = false := by simp
  have eg : (gr == gr) = true := by simp
  clear hck hap haq hxo hok
  obtain ⟨c0, c1, c2, c3⟩ := Hc0.out.cells
  go_enter Try.func3, Try.ntmps3
  go_wp2_with fail
  go_at_call 8
  refine (shown_any _).mono ?_
  rintro e W1 ⟨rfl, hb⟩
  have HB1 := Lib.hid (HB0.out.trans (hb.mono HB0.out.size))
  have Hc1 := Lib.hid (Hc0.out.below hb)
  have Ro1 := Lib.hid ((hb.block _ (lt_of Ro0.out)).trans Ro0.out)
  clear hb HB0 Hc0 c0 c1 c2 c3 Ro0
  obtain ⟨c0, c1, c2, c3⟩ := Hc1.out.cells
  go_wp2_with fail
  go_cut [36] from 31 to 36 (fun bv wx => bv = .bool false ∧ Below W1.heap.size W1 wx)
  case first =>
    have HH := Lib.hid (show ∀ V, Below W1.heap.size W1 V → (V.cell? ⟨w.heap.size, 0, none⟩ = some (.int .i64 c.e) ∧ V.cell? ⟨w.heap.size, 1, none⟩ = some (.slice Ac1 c.srv.length cc1) ∧ V.cell? ⟨w.heap.size, 2, none⟩ = some (.slice Ac2 c.pts.length cc2) ∧ V.cell? ⟨w.heap.size, 3, none⟩ = some (.int .i64 c.t)) from fun V h => by
      exact (Hc1.out.below h).cells)
    have B0 := Lib.hid ((Below.refl W1.heap.size W1).drew)
    go_region_held3 (fun w' => (w'.cell? ⟨w.heap.size, 0, none⟩ = some (.int .i64 c.e) ∧ w'.cell? ⟨w.heap.size, 1, none⟩ = some (.slice Ac1 c.srv.length cc1) ∧ w'.cell? ⟨w.heap.size, 2, none⟩ = some (.slice Ac2 c.pts.length cc2) ∧ w'.cell? ⟨w.heap.size, 3, none⟩ = some (.int .i64 c.t)))
      (first | exact HH.out _ B3.out | exact HH.out _ B2.out | exact HH.out _ B1.out | exact HH.out _ B0.out | fail)
      (first
        | (go_at_call 9; (first | ((with_reducible refine (HCk.out _ _ (Hc1.out.below B2.out).ic).mono ?_); rintro e V3 ⟨rfl, k2⟩; have B3 := Lib.hid (B2.out.trans (k2.mono B2.out.size)); (first | have I9 := Lib.hid (I9.out.below k2) | skip); clear k2) | ((with_reducible refine (HCk.out _ _ (Hc1.out.below B1.out).ic).mono ?_); rintro e V2 ⟨rfl, k2⟩; have B2 := Lib.hid (B1.out.trans (k2.mono B1.out.size)); (first | have I9 := Lib.hid (I9.out.below k2) | skip); clear k2) | ((with_reducible refine (HCk.out _ _ (Hc1.out.below B0.out).ic).mono ?_); rintro e V1 ⟨rfl, k2⟩; have B1 := Lib.hid (B0.out.trans (k2.mono B0.out.size)); (first | have I9 := Lib.hid (I9.out.below k2) | skip); clear k2)))
        | (go_at_call 11; (first | ((with_reducible refine (theirs_any (Hc1.out.below B1.out).ic (by omega)).mono ?_); rintro e V2 ⟨v9, rfl, k1, k2⟩; have B2 := Lib.hid (B1.out.trans (k2.mono B1.out.size)); have I9 := Lib.hid k1; clear k1 k2) | ((with_reducible refine (theirs_any (Hc1.out.below B0.out).ic (by omega)).mono ?_); rintro e V1 ⟨v9, rfl, k1, k2⟩; have B1 := Lib.hid (B0.out.trans (k2.mono B0.out.size)); have I9 := Lib.hid k1; clear k1 k2)))
        | (go_at_call 10; (first | ((with_reducible refine (HRk.out _ _ I9.out).mono ?_); rintro e V3 ⟨rfl, k2⟩; have B3 := Lib.hid (B2.out.trans (k2.mono B2.out.size)); clear k2) | ((with_reducible refine (HRk.out _ _ I9.out).mono ?_); rintro e V2 ⟨rfl, k2⟩; have B2 := Lib.hid (B1.out.trans (k2.mono B1.out.size)); clear k2) | ((with_reducible refine (HRk.out _ _ I9.out).mono ?_); rintro e V1 ⟨rfl, k2⟩; have B1 := Lib.hid (B0.out.trans (k2.mono B0.out.size)); clear k2)))
        | fail)
    all_goals
      clear HH
      go_wp2_with fail
      go_meet
      exact ⟨rfl, B3.out⟩
  case rest =>
    obtain ⟨rfl, hb⟩ := hcut
    have HB2 := Lib.hid (HB1.out.trans (hb.mono HB1.out.size))
    have Hc2 := Lib.hid (Hc1.out.below hb)
    have Ro2 := Lib.hid ((hb.block _ (lt_of Ro1.out)).trans Ro1.out)
    clear hb HB1 Hc1 c0 c1 c2 c3 Ro1
    obtain ⟨c0, c1, c2, c3⟩ := Hc2.out.cells
    go_wp2_with fail
    go_at_call 12
    refine (HAf.out _ HB2.out).mono ?_
    rintro e W3 ⟨vd, rfl, hic, hb⟩
    have hic2 := hic
    obtain ⟨svd, pvd, rfl, ⟨Ad1, cd1, rfl, -⟩, ⟨Ad2, cd2, rfl, -⟩⟩ := hic2
    have hal := (Below.refl W3.heap.size W3).alloc (Nat.le_refl _) (.cells #[.int .i64 d.e, .slice Ad1 d.srv.length cd1, .slice Ad2 d.pts.length cd2, .int .i64 d.t] 26)
    have hb := hb.trans (hal.mono hb.size)
    have Hd3 := Lib.hid (HC4.made hic 26)
    clear hic hal
    have HB3 := Lib.hid (HB2.out.trans (hb.mono HB2.out.size))
    have Hc3 := Lib.hid (Hc2.out.below hb)
    have Ro3 := Lib.hid ((hb.block _ (lt_of Ro2.out)).trans Ro2.out)
    clear hb HB2 Hc2 c0 c1 c2 c3 Ro2
    obtain ⟨c0, c1, c2, c3⟩ := Hc3.out.cells
    obtain ⟨d0, d1, d2, d3⟩ := Hd3.out.cells
    have o0 := cell_of_row _ _ 0 _ _ _ Ro3.out
    have o1 := cell_of_row _ _ 1 _ _ _ Ro3.out
    have o2 := cell_of_row _ _ 2 _ _ _ Ro3.out
    have o3 := cell_of_row _ _ 3 _ _ _ Ro3.out
    have o4 := cell_of_row _ _ 4 _ _ _ Ro3.out
    go_wp2_with fail
    go_at_call 13
    refine (HAp.out _ _ Hd3.out.ic).mono ?_
    rintro e W4 ⟨vx, rfl, hic, hb, -⟩
    have hic2 := hic
    obtain ⟨svx, pvx, rfl, ⟨Ax1, cx1, rfl, -⟩, ⟨Ax2, cx2, rfl, -⟩⟩ := hic2
    have hal := (Below.refl W4.heap.size W4).alloc (Nat.le_refl _) (.cells #[.int .i64 x.e, .slice Ax1 x.srv.length cx1, .slice Ax2 x.pts.length cx2, .int .i64 x.t] 26)
    have hb := hb.trans (hal.mono hb.size)
    have Hx4 := Lib.hid (HC4.made hic 26)
    clear hic hal
    have HB4 := Lib.hid (HB3.out.trans (hb.mono HB3.out.size))
    have Hc4 := Lib.hid (Hc3.out.below hb)
    have Hd4 := Lib.hid (Hd3.out.below hb)
    have Ro4 := Lib.hid ((hb.block _ (lt_of Ro3.out)).trans Ro3.out)
    clear hb HB3 Hc3 c0 c1 c2 c3 Hd3 d0 d1 d2 d3 Ro3
    obtain ⟨c0, c1, c2, c3⟩ := Hc4.out.cells
    obtain ⟨d0, d1, d2, d3⟩ := Hd4.out.cells
    obtain ⟨x0, x1, x2, x3⟩ := Hx4.out.cells
    clear o0 o1 o2 o3 o4
    go_wp2_with fail
    generalize W4.alloc (.cells #[.int .i64 x.e, .slice Ax1 x.srv.length cx1, .slice Ax2 x.pts.length cx2, .int .i64 x.t] 26) = Wa at HB4 Hc4 c0 c1 c2 c3 Hd4 d0 d1 d2 d3 Hx4 x0 x1 x2 x3 Ro4 ⊢
    go_wp2_with fail
    go_cut [10, 11] from 45 to 51 (fun pv ev wx => ∃ (D : Nat) (A6 : Option Addr) (d6 : Nat) (A7 : Option Addr) (d7 : Nat), pv = .pointer (some ⟨D, 0, none⟩) ∧ ev = .int .i64 er ∧ HC4 wx D x (.slice A6 x.srv.length d6) (.slice A7 x.pts.length d7) ∧ Below Wa.heap.size Wa wx)
    case first =>
      have HH := Lib.hid (show ∀ V, Below Wa.heap.size Wa V → (V.cell? ⟨W3.heap.size, 0, none⟩ = some (.int .i64 d.e) ∧ V.cell? ⟨W3.heap.size, 1, none⟩ = some (.slice Ad1 d.srv.length cd1) ∧ V.cell? ⟨W3.heap.size, 2, none⟩ = some (.slice Ad2 d.pts.length cd2) ∧ V.cell? ⟨W3.heap.size, 3, none⟩ = some (.int .i64 d.t)) ∧ (V.cell? ⟨w.heap.size + 1, 0, none⟩ = some (.int .i64 ok) ∧ V.cell? ⟨w.heap.size + 1, 1, none⟩ = some (.int .i64 n) ∧ V.cell? ⟨w.heap.size + 1, 2, none⟩ = some (.int .i64 m) ∧ V.cell? ⟨w.heap.size + 1, 3, none⟩ = some (.int .i64 f) ∧ V.cell? ⟨w.heap.size + 1, 4, none⟩ = some (.int .i64 t)) from fun V h => by
        have R := (h.block _ (lt_of Ro4.out)).trans Ro4.out
        exact ⟨(Hd4.out.below h).cells, cell_of_row _ _ 0 _ _ _ R, cell_of_row _ _ 1 _ _ _ R, cell_of_row _ _ 2 _ _ _ R, cell_of_row _ _ 3 _ _ _ R, cell_of_row _ _ 4 _ _ _ R⟩)
      have B0 := Lib.hid ((Below.refl Wa.heap.size Wa).drew)
      go_region_held3 (fun w' => (w'.cell? ⟨W3.heap.size, 0, none⟩ = some (.int .i64 d.e) ∧ w'.cell? ⟨W3.heap.size, 1, none⟩ = some (.slice Ad1 d.srv.length cd1) ∧ w'.cell? ⟨W3.heap.size, 2, none⟩ = some (.slice Ad2 d.pts.length cd2) ∧ w'.cell? ⟨W3.heap.size, 3, none⟩ = some (.int .i64 d.t)) ∧ (w'.cell? ⟨w.heap.size + 1, 0, none⟩ = some (.int .i64 ok) ∧ w'.cell? ⟨w.heap.size + 1, 1, none⟩ = some (.int .i64 n) ∧ w'.cell? ⟨w.heap.size + 1, 2, none⟩ = some (.int .i64 m) ∧ w'.cell? ⟨w.heap.size + 1, 3, none⟩ = some (.int .i64 f) ∧ w'.cell? ⟨w.heap.size + 1, 4, none⟩ = some (.int .i64 t)))
        (first | exact HH.out _ B3.out | exact HH.out _ B2.out | exact HH.out _ (B2.out.alloc B2.out.size _) | exact HH.out _ B1.out | exact HH.out _ (B1.out.alloc B1.out.size _) | exact HH.out _ B0.out | exact HH.out _ (B0.out.alloc B0.out.size _) | fail)
        (first
          | (go_at_call 11; (first | ((with_reducible refine (theirs_any (Hd4.out.below B0.out).ic (by omega)).mono ?_); rintro e V1 ⟨v1q, rfl, k1, k2⟩; have I9 := Lib.hid k1; have B1 := Lib.hid (B0.out.trans (k2.mono B0.out.size)); clear k1 k2) | ((with_reducible refine (theirs_any (Hd4.out.below (B0.out.alloc B0.out.size (.cells #[.int .i64 0, .slice none 0 0, .slice none 0 0, .int .i64 0] 37))).ic (by omega)).mono ?_); rintro e V1 ⟨v1q, rfl, k1, k2⟩; (have hxA : V1.heap[Wa.heap.size]? = some (.cells #[.int .i64 0, .slice none 0 0, .slice none 0 0, .int .i64 0] 37 (0, 0)) := (k2.block Wa.heap.size (by simp)).trans (heap_alloc_new _ _)); have HXA := Lib.hid hxA; have I9 := Lib.hid k1; have B1 := Lib.hid ((B0.out.alloc B0.out.size (.cells #[.int .i64 0, .slice none 0 0, .slice none 0 0, .int .i64 0] 37)).trans (k2.mono (B0.out.alloc B0.out.size (.cells #[.int .i64 0, .slice none 0 0, .slice none 0 0, .int .i64 0] 37)).size)); clear k1 k2 hxA) | ((with_reducible refine (theirs_any (Hd4.out.below ((Below.refl Wa.heap.size Wa).alloc (Nat.le_refl _) (.cells #[.int .i64 0, .slice none 0 0, .slice none 0 0, .int .i64 0] 37)).drew).ic (by omega)).mono ?_); rintro e V1 ⟨v1q, rfl, k1, k2⟩; (have hxA : V1.heap[Wa.heap.size]? = some (.cells #[.int .i64 0, .slice none 0 0, .slice none 0 0, .int .i64 0] 37 (0, 0)) := (k2.block Wa.heap.size (by simp)).trans (heap_alloc_new _ _)); have HXA := Lib.hid hxA; have I9 := Lib.hid k1; have B1 := Lib.hid (((Below.refl Wa.heap.size Wa).alloc (Nat.le_refl _) (.cells #[.int .i64 0, .slice none 0 0, .slice none 0 0, .int .i64 0] 37)).drew.trans (k2.mono ((Below.refl Wa.heap.size Wa).alloc (Nat.le_refl _) (.cells #[.int .i64 0, .slice none 0 0, .slice none 0 0, .int .i64 0] 37)).drew.size)); clear k1 k2 hxA)))
          | (go_at_call 14; (first | ((with_reducible refine (HRp.out _ _ I9.out).mono ?_); rintro e V2 ⟨v2q, rfl, k1, k2, -⟩; (have hxD := (k2.block Wa.heap.size (lt_of HXA.out)).trans HXA.out); have B2 := Lib.hid (B1.out.trans (k2.mono B1.out.size)); (have k1' := k1); (obtain ⟨sv6, pv6, rfl, ⟨A6, d6, rfl, -⟩, ⟨A7, d7, rfl, -⟩⟩ := k1'); have z0 := cell_of_row _ _ 0 _ _ _ hxD; have z1 := cell_of_row _ _ 1 _ _ _ hxD; have z2 := cell_of_row _ _ 2 _ _ _ hxD; have z3 := cell_of_row _ _ 3 _ _ _ hxD; (have tf : ∀ j, V2.frozen? ⟨Wa.heap.size, j, none⟩ = false := fun j => by unfold World.frozen?; simp only [hxD]; simp); have tf0 := tf 0; have tf1 := tf 1; have tf2 := tf 2; have tf3 := tf 3; (obtain ⟨r1, r2⟩ := store4 hxD (.int .i64 x.e) (.slice A6 x.srv.length d6) (.slice A7 x.pts.length d7) (.int .i64 x.t)); (have hic7 := k1.stored hxD HFx.out.1 r2.size (fun q g1 g2 => r2.block q g1 (fun e => g2 (by injection e)))); have R6 := Lib.hid (HC4.of_row r1 hic7); have B3 := Lib.hid (B2.out.grown r2 B2.out.size (fun q hq => by cases hq; exact Nat.le_refl _)); clear k1 k2 hxD tf r1 r2 hic7) | ((with_reducible refine (HRp.out _ _ (I9.out.below ((Below.refl _ _).alloc (Nat.le_refl _) (.cells #[.int .i64 0, .slice none 0 0, .slice none 0 0, .int .i64 0] 37)))).mono ?_); rintro e V2 ⟨v2q, rfl, k1, k2, -⟩; (have hxD : V2.heap[V1.heap.size]? = some (.cells #[.int .i64 0, .slice none 0 0, .slice none 0 0, .int .i64 0] 37 (0, 0)) := (k2.block V1.heap.size (by simp)).trans (heap_alloc_new _ _)); have B2 := Lib.hid ((B1.out.alloc B1.out.size (.cells #[.int .i64 0, .slice none 0 0, .slice none 0 0, .int .i64 0] 37)).trans (k2.mono (B1.out.alloc B1.out.size (.cells #[.int .i64 0, .slice none 0 0, .slice none 0 0, .int .i64 0] 37)).size)); (have k1' := k1); (obtain ⟨sv6, pv6, rfl, ⟨A6, d6, rfl, -⟩, ⟨A7, d7, rfl, -⟩⟩ := k1'); have z0 := cell_of_row _ _ 0 _ _ _ hxD; have z1 := cell_of_row _ _ 1 _ _ _ hxD; have z2 := cell_of_row _ _ 2 _ _ _ hxD; have z3 := cell_of_row _ _ 3 _ _ _ hxD; (have tf : ∀ j, V2.frozen? ⟨V1.heap.size, j, none⟩ = false := fun j => by unfold World.frozen?; simp only [hxD]; simp); have tf0 := tf 0; have tf1 := tf 1; have tf2 := tf 2; have tf3 := tf 3; (obtain ⟨r1, r2⟩ := store4 hxD (.int .i64 x.e) (.slice A6 x.srv.length d6) (.slice A7 x.pts.length d7) (.int .i64 x.t)); (have hic7 := k1.stored hxD HFx.out.1 r2.size (fun q g1 g2 => r2.block q g1 (fun e => g2 (by injection e)))); have R6 := Lib.hid (HC4.of_row r1 hic7); have B3 := Lib.hid (B2.out.grown r2 B2.out.size (fun q hq => by cases hq; exact B1.out.size)); clear k1 k2 hxD tf r1 r2 hic7) | ((with_reducible refine (HRp.out _ _ I9.out).mono ?_); rintro e V2 ⟨v2q, rfl, k1, k2, -⟩; (have k1' := k1); (obtain ⟨sv6, pv6, rfl, ⟨A6, d6, rfl, -⟩, ⟨A7, d7, rfl, -⟩⟩ := k1'); have I10 := Lib.hid k1; have B2 := Lib.hid (B1.out.trans (k2.mono B1.out.size)); clear k1 k2)))
          | fail)
      all_goals
        clear HH
        go_wp2_with fail
        go_meet
        first
          | exact ⟨_, A6, d6, A7, d7, rfl, rfl, R6.out, B3.out⟩
          | exact ⟨_, A6, d6, A7, d7, rfl, rfl, HC4.made I10.out _, B2.out.alloc B2.out.size _⟩
    case rest =>
      obtain ⟨By, Ay1, cy1, Ay2, cy2, rfl, rfl, hnew, hb⟩ := hcut
      have Hy5 := Lib.hid hnew
      clear hnew
      have HB5 := Lib.hid (HB4.out.trans (hb.mono HB4.out.size))
      have Hc5 := Lib.hid (Hc4.out.below hb)
      have Hd5 := Lib.hid (Hd4.out.below hb)
      have Hx5 := Lib.hid (Hx4.out.below hb)
      have Ro5 := Lib.hid ((hb.block _ (lt_of Ro4.out)).trans Ro4.out)
      clear hb HB4 Hc4 c0 c1 c2 c3 Hd4 d0 d1 d2 d3 Hx4 x0 x1 x2 x3 Ro4
      obtain ⟨c0, c1, c2, c3⟩ := Hc5.out.cells
      obtain ⟨d0, d1, d2, d3⟩ := Hd5.out.cells
      obtain ⟨x0, x1, x2, x3⟩ := Hx5.out.cells
      obtain ⟨y0, y1, y2, y3⟩ := Hy5.out.cells
      go_wp2_with fail
      go_cut [66] from 52 to 66 (fun bv wx => bv = .bool false ∧ Below wc.heap.size wc wx)
      case first =>
        have HH := Lib.hid (show ∀ V, Below wc.heap.size wc V → (V.cell? ⟨W4.heap.size, 0, none⟩ = some (.int .i64 x.e) ∧ V.cell? ⟨W4.heap.size, 1, none⟩ = some (.slice Ax1 x.srv.length cx1) ∧ V.cell? ⟨W4.heap.size, 2, none⟩ = some (.slice Ax2 x.pts.length cx2) ∧ V.cell? ⟨W4.heap.size, 3, none⟩ = some (.int .i64 x.t)) ∧ (V.cell? ⟨By, 0, none⟩ = some (.int .i64 x.e) ∧ V.cell? ⟨By, 1, none⟩ = some (.slice Ay1 x.srv.length cy1) ∧ V.cell? ⟨By, 2, none⟩ = some (.slice Ay2 x.pts.length cy2) ∧ V.cell? ⟨By, 3, none⟩ = some (.int .i64 x.t)) ∧ (V.cell? ⟨W3.heap.size, 0, none⟩ = some (.int .i64 d.e) ∧ V.cell? ⟨W3.heap.size, 1, none⟩ = some (.slice Ad1 d.srv.length cd1) ∧ V.cell? ⟨W3.heap.size, 2, none⟩ = some (.slice Ad2 d.pts.length cd2) ∧ V.cell? ⟨W3.heap.size, 3, none⟩ = some (.int .i64 d.t)) from fun V h => by
          exact ⟨(Hx5.out.below h).cells, (Hy5.out.below h).cells, (Hd5.out.below h).cells⟩)
        have B0 := Lib.hid ((Below.refl wc.heap.size wc).drew)
        go_region_held3 (fun w' => (w'.cell? ⟨W4.heap.size, 0, none⟩ = some (.int .i64 x.e) ∧ w'.cell? ⟨W4.heap.size, 1, none⟩ = some (.slice Ax1 x.srv.length cx1) ∧ w'.cell? ⟨W4.heap.size, 2, none⟩ = some (.slice Ax2 x.pts.length cx2) ∧ w'.cell? ⟨W4.heap.size, 3, none⟩ = some (.int .i64 x.t)) ∧ (w'.cell? ⟨By, 0, none⟩ = some (.int .i64 x.e) ∧ w'.cell? ⟨By, 1, none⟩ = some (.slice Ay1 x.srv.length cy1) ∧ w'.cell? ⟨By, 2, none⟩ = some (.slice Ay2 x.pts.length cy2) ∧ w'.cell? ⟨By, 3, none⟩ = some (.int .i64 x.t)) ∧ (w'.cell? ⟨W3.heap.size, 0, none⟩ = some (.int .i64 d.e) ∧ w'.cell? ⟨W3.heap.size, 1, none⟩ = some (.slice Ad1 d.srv.length cd1) ∧ w'.cell? ⟨W3.heap.size, 2, none⟩ = some (.slice Ad2 d.pts.length cd2) ∧ w'.cell? ⟨W3.heap.size, 3, none⟩ = some (.int .i64 d.t)))
          (first | exact HH.out _ B3.out | exact HH.out _ B2.out | exact HH.out _ B1.out | exact HH.out _ B0.out | fail)
          (first
            | (go_at_call 11; (first | ((with_reducible refine (theirs_any (Hx5.out.below B0.out).ic (by omega)).mono ?_); rintro e V1 ⟨v9, rfl, k1, k2⟩; have I9 := Lib.hid k1; have B1 := Lib.hid (B0.out.trans (k2.mono B0.out.size)); clear k1 k2)))
            | (go_at_call 15; (first | ((with_reducible refine (same12_any I9.out (Hy5.out.below B1.out).ic (by omega) (by omega)).mono ?_); rintro e V2 ⟨rfl, k2⟩; have B2 := Lib.hid (B1.out.trans (k2.mono B1.out.size)); clear k2)))
            | (go_at_call 9; (first | ((with_reducible refine (HCd.out _ _ (Hd5.out.below B2.out).ic).mono ?_); rintro e V3 ⟨rfl, k2⟩; have B3 := Lib.hid (B2.out.trans (k2.mono B2.out.size)); clear k2)))
            | fail)
        all_goals
          clear HH
          go_wp2_with fail
          go_meet
          exact ⟨rfl, B3.out⟩
      case rest =>
        obtain ⟨rfl, hb⟩ := hcut
        have HB6 := Lib.hid (HB5.out.trans (hb.mono HB5.out.size))
        have Hc6 := Lib.hid (Hc5.out.below hb)
        have Hd6 := Lib.hid (Hd5.out.below hb)
        have Hx6 := Lib.hid (Hx5.out.below hb)
        have Hy6 := Lib.hid (Hy5.out.below hb)
        have Ro6 := Lib.hid ((hb.block _ (lt_of Ro5.out)).trans Ro5.out)
        clear hb HB5 Hc5 c0 c1 c2 c3 Hd5 d0 d1 d2 d3 Hx5 x0 x1 x2 x3 Hy5 y0 y1 y2 y3 Ro5
        obtain ⟨c0, c1, c2, c3⟩ := Hc6.out.cells
        obtain ⟨d0, d1, d2, d3⟩ := Hd6.out.cells
        obtain ⟨x0, x1, x2, x3⟩ := Hx6.out.cells
        obtain ⟨y0, y1, y2, y3⟩ := Hy6.out.cells
        go_upto_region 10 with fail
        go_cut [81] from 67 to 81 (fun bv wx => bv = .bool false ∧ Below wc.heap.size wc wx)
        case first =>
          by_cases her : er = 0
          case neg =>
            have e1 : (er == 0) = false := by simpa using her
            go_wp2_with fail
            go_meet
            exact ⟨rfl, Below.refl _ _⟩
          case pos =>
            obtain ⟨hxok, hxe⟩ := HXO.out her
            have e1 : (er == 0) = true := by simpa using her
            have HCx := Lib.hid (fun (W : World) (u : Value) (h : IC W u x) => show Calls Try.prog 9 #[u] W fun e w' => e = .returned (.int .i64 0) ∧ Below W.heap.size W w' by (have := check_any h (by omega) (by omega); rw [chk_ok hxok] at this; exact this))
            have e2 : (x.e != d.e + 1) = false := by simpa using hxe
            clear hxok hxe her
            go_wp2_with fail
            go_at_call 9
            refine (HCx.out _ _ Hx6.out.ic).mono ?_
            rintro e V1 ⟨rfl, hb⟩
            obtain ⟨x0, x1, x2, x3⟩ := (Hx6.out.below hb).cells
            obtain ⟨d0, d1q, d2q, d3⟩ := (Hd6.out.below hb).cells
            have B1 := Lib.hid hb
            clear hb
            go_wp2_with fail
            go_meet
            exact ⟨rfl, B1.out⟩
        case rest =>
          obtain ⟨rfl, hb⟩ := hcut
          have HB7 := Lib.hid (HB6.out.trans (hb.mono HB6.out.size))
          have Hc7 := Lib.hid (Hc6.out.below hb)
          have Hd7 := Lib.hid (Hd6.out.below hb)
          have Hx7 := Lib.hid (Hx6.out.below hb)
          have Hy7 := Lib.hid (Hy6.out.below hb)
          have Ro7 := Lib.hid ((hb.block _ (lt_of Ro6.out)).trans Ro6.out)
          clear hb HB6 Hc6 c0 c1 c2 c3 Hd6 d0 d1 d2 d3 Hx6 x0 x1 x2 x3 Hy6 y0 y1 y2 y3 Ro6
          obtain ⟨c0, c1, c2, c3⟩ := Hc7.out.cells
          obtain ⟨d0, d1, d2, d3⟩ := Hd7.out.cells
          obtain ⟨x0, x1, x2, x3⟩ := Hx7.out.cells
          obtain ⟨y0, y1, y2, y3⟩ := Hy7.out.cells
          have o0 := cell_of_row _ _ 0 _ _ _ Ro7.out
          have o1 := cell_of_row _ _ 1 _ _ _ Ro7.out
          have o2 := cell_of_row _ _ 2 _ _ _ Ro7.out
          have o3 := cell_of_row _ _ 3 _ _ _ Ro7.out
          have o4 := cell_of_row _ _ 4 _ _ _ Ro7.out
          go_wp2_with fail
          go_at_call 13
          refine (HAq.out _ _ Hc7.out.ic).mono ?_
          rintro e W8 ⟨vz, rfl, hic, hb, -⟩
          have hic2 := hic
          obtain ⟨svz, pvz, rfl, ⟨Az1, cz1, rfl, -⟩, ⟨Az2, cz2, rfl, -⟩⟩ := hic2
          have hal := (Below.refl W8.heap.size W8).alloc (Nat.le_refl _) (.cells #[.int .i64 z.e, .slice Az1 z.srv.length cz1, .slice Az2 z.pts.length cz2, .int .i64 z.t] 26)
          have hb := hb.trans (hal.mono hb.size)
          have Hz8 := Lib.hid (HC4.made hic 26)
          clear hic hal
          have HB8 := Lib.hid (HB7.out.trans (hb.mono HB7.out.size))
          have Hc8 := Lib.hid (Hc7.out.below hb)
          have Hd8 := Lib.hid (Hd7.out.below hb)
          have Hx8 := Lib.hid (Hx7.out.below hb)
          have Hy8 := Lib.hid (Hy7.out.below hb)
          have Ro8 := Lib.hid ((hb.block _ (lt_of Ro7.out)).trans Ro7.out)
          clear hb HB7 Hc7 c0 c1 c2 c3 Hd7 d0 d1 d2 d3 Hx7 x0 x1 x2 x3 Hy7 y0 y1 y2 y3 Ro7
          obtain ⟨c0, c1, c2, c3⟩ := Hc8.out.cells
          obtain ⟨d0, d1, d2, d3⟩ := Hd8.out.cells
          obtain ⟨x0, x1, x2, x3⟩ := Hx8.out.cells
          obtain ⟨y0, y1, y2, y3⟩ := Hy8.out.cells
          obtain ⟨z0, z1, z2, z3⟩ := Hz8.out.cells
          clear o0 o1 o2 o3 o4
          go_wp2_with fail
          generalize W8.alloc (.cells #[.int .i64 z.e, .slice Az1 z.srv.length cz1, .slice Az2 z.pts.length cz2, .int .i64 z.t] 26) = Wb at HB8 Hc8 c0 c1 c2 c3 Hd8 d0 d1 d2 d3 Hx8 x0 x1 x2 x3 Hy8 y0 y1 y2 y3 Hz8 z0 z1 z2 z3 Ro8 ⊢
          go_wp2_with fail
          go_cut [14, 15] from 88 to 94 (fun pv ev wx => ∃ (D : Nat) (A6 : Option Addr) (d6 : Nat) (A7 : Option Addr) (d7 : Nat), pv = .pointer (some ⟨D, 0, none⟩) ∧ ev = .int .i64 gr ∧ HC4 wx D z (.slice A6 z.srv.length d6) (.slice A7 z.pts.length d7) ∧ Below Wb.heap.size Wb wx)
          case first =>
            have HH := Lib.hid (show ∀ V, Below Wb.heap.size Wb V → (V.cell? ⟨w.heap.size, 0, none⟩ = some (.int .i64 c.e) ∧ V.cell? ⟨w.heap.size, 1, none⟩ = some (.slice Ac1 c.srv.length cc1) ∧ V.cell? ⟨w.heap.size, 2, none⟩ = some (.slice Ac2 c.pts.length cc2) ∧ V.cell? ⟨w.heap.size, 3, none⟩ = some (.int .i64 c.t)) ∧ (V.cell? ⟨w.heap.size + 1, 0, none⟩ = some (.int .i64 ok) ∧ V.cell? ⟨w.heap.size + 1, 1, none⟩ = some (.int .i64 n) ∧ V.cell? ⟨w.heap.size + 1, 2, none⟩ = some (.int .i64 m) ∧ V.cell? ⟨w.heap.size + 1, 3, none⟩ = some (.int .i64 f) ∧ V.cell? ⟨w.heap.size + 1, 4, none⟩ = some (.int .i64 t)) from fun V h => by
              have R := (h.block _ (lt_of Ro8.out)).trans Ro8.out
              exact ⟨(Hc8.out.below h).cells, cell_of_row _ _ 0 _ _ _ R, cell_of_row _ _ 1 _ _ _ R, cell_of_row _ _ 2 _ _ _ R, cell_of_row _ _ 3 _ _ _ R, cell_of_row _ _ 4 _ _ _ R⟩)
            have B0 := Lib.hid ((Below.refl Wb.heap.size Wb).drew)
            go_region_held3 (fun w' => (w'.cell? ⟨w.heap.size, 0, none⟩ = some (.int .i64 c.e) ∧ w'.cell? ⟨w.heap.size, 1, none⟩ = some (.slice Ac1 c.srv.length cc1) ∧ w'.cell? ⟨w.heap.size, 2, none⟩ = some (.slice Ac2 c.pts.length cc2) ∧ w'.cell? ⟨w.heap.size, 3, none⟩ = some (.int .i64 c.t)) ∧ (w'.cell? ⟨w.heap.size + 1, 0, none⟩ = some (.int .i64 ok) ∧ w'.cell? ⟨w.heap.size + 1, 1, none⟩ = some (.int .i64 n) ∧ w'.cell? ⟨w.heap.size + 1, 2, none⟩ = some (.int .i64 m) ∧ w'.cell? ⟨w.heap.size + 1, 3, none⟩ = some (.int .i64 f) ∧ w'.cell? ⟨w.heap.size + 1, 4, none⟩ = some (.int .i64 t)))
              (first | exact HH.out _ B3.out | exact HH.out _ B2.out | exact HH.out _ (B2.out.alloc B2.out.size _) | exact HH.out _ B1.out | exact HH.out _ (B1.out.alloc B1.out.size _) | exact HH.out _ B0.out | exact HH.out _ (B0.out.alloc B0.out.size _) | fail)
              (first
                | (go_at_call 11; (first | ((with_reducible refine (theirs_any (Hc8.out.below B0.out).ic (by omega)).mono ?_); rintro e V1 ⟨v1q, rfl, k1, k2⟩; have I9 := Lib.hid k1; have B1 := Lib.hid (B0.out.trans (k2.mono B0.out.size)); clear k1 k2) | ((with_reducible refine (theirs_any (Hc8.out.below (B0.out.alloc B0.out.size (.cells #[.int .i64 0, .slice none 0 0, .slice none 0 0, .int .i64 0] 37))).ic (by omega)).mono ?_); rintro e V1 ⟨v1q, rfl, k1, k2⟩; (have hxA : V1.heap[Wb.heap.size]? = some (.cells #[.int .i64 0, .slice none 0 0, .slice none 0 0, .int .i64 0] 37 (0, 0)) := (k2.block Wb.heap.size (by simp)).trans (heap_alloc_new _ _)); have HXA := Lib.hid hxA; have I9 := Lib.hid k1; have B1 := Lib.hid ((B0.out.alloc B0.out.size (.cells #[.int .i64 0, .slice none 0 0, .slice none 0 0, .int .i64 0] 37)).trans (k2.mono (B0.out.alloc B0.out.size (.cells #[.int .i64 0, .slice none 0 0, .slice none 0 0, .int .i64 0] 37)).size)); clear k1 k2 hxA) | ((with_reducible refine (theirs_any (Hc8.out.below ((Below.refl Wb.heap.size Wb).alloc (Nat.le_refl _) (.cells #[.int .i64 0, .slice none 0 0, .slice none 0 0, .int .i64 0] 37)).drew).ic (by omega)).mono ?_); rintro e V1 ⟨v1q, rfl, k1, k2⟩; (have hxA : V1.heap[Wb.heap.size]? = some (.cells #[.int .i64 0, .slice none 0 0, .slice none 0 0, .int .i64 0] 37 (0, 0)) := (k2.block Wb.heap.size (by simp)).trans (heap_alloc_new _ _)); have HXA := Lib.hid hxA; have I9 := Lib.hid k1; have B1 := Lib.hid (((Below.refl Wb.heap.size Wb).alloc (Nat.le_refl _) (.cells #[.int .i64 0, .slice none 0 0, .slice none 0 0, .int .i64 0] 37)).drew.trans (k2.mono ((Below.refl Wb.heap.size Wb).alloc (Nat.le_refl _) (.cells #[.int .i64 0, .slice none 0 0, .slice none 0 0, .int .i64 0] 37)).drew.size)); clear k1 k2 hxA)))
                | (go_at_call 14; (first | ((with_reducible refine (HRq.out _ _ I9.out).mono ?_); rintro e V2 ⟨v2q, rfl, k1, k2, -⟩; (have hxD := (k2.block Wb.heap.size (lt_of HXA.out)).trans HXA.out); have B2 := Lib.hid (B1.out.trans (k2.mono B1.out.size)); (have k1' := k1); (obtain ⟨sv6, pv6, rfl, ⟨A6, d6, rfl, -⟩, ⟨A7, d7, rfl, -⟩⟩ := k1'); have z0 := cell_of_row _ _ 0 _ _ _ hxD; have z1 := cell_of_row _ _ 1 _ _ _ hxD; have z2 := cell_of_row _ _ 2 _ _ _ hxD; have z3 := cell_of_row _ _ 3 _ _ _ hxD; (have tf : ∀ j, V2.frozen? ⟨Wb.heap.size, j, none⟩ = false := fun j => by unfold World.frozen?; simp only [hxD]; simp); have tf0 := tf 0; have tf1 := tf 1; have tf2 := tf 2; have tf3 := tf 3; (obtain ⟨r1, r2⟩ := store4 hxD (.int .i64 z.e) (.slice A6 z.srv.length d6) (.slice A7 z.pts.length d7) (.int .i64 z.t)); (have hic7 := k1.stored hxD HFz.out.1 r2.size (fun q g1 g2 => r2.block q g1 (fun e => g2 (by injection e)))); have R6 := Lib.hid (HC4.of_row r1 hic7); have B3 := Lib.hid (B2.out.grown r2 B2.out.size (fun q hq => by cases hq; exact Nat.le_refl _)); clear k1 k2 hxD tf r1 r2 hic7) | ((with_reducible refine (HRq.out _ _ (I9.out.below ((Below.refl _ _).alloc (Nat.le_refl _) (.cells #[.int .i64 0, .slice none 0 0, .slice none 0 0, .int .i64 0] 37)))).mono ?_); rintro e V2 ⟨v2q, rfl, k1, k2, -⟩; (have hxD : V2.heap[V1.heap.size]? = some (.cells #[.int .i64 0, .slice none 0 0, .slice none 0 0, .int .i64 0] 37 (0, 0)) := (k2.block V1.heap.size (by simp)).trans (heap_alloc_new _ _)); have B2 := Lib.hid ((B1.out.alloc B1.out.size (.cells #[.int .i64 0, .slice none 0 0, .slice none 0 0, .int .i64 0] 37)).trans (k2.mono (B1.out.alloc B1.out.size (.cells #[.int .i64 0, .slice none 0 0, .slice none 0 0, .int .i64 0] 37)).size)); (have k1' := k1); (obtain ⟨sv6, pv6, rfl, ⟨A6, d6, rfl, -⟩, ⟨A7, d7, rfl, -⟩⟩ := k1'); have z0 := cell_of_row _ _ 0 _ _ _ hxD; have z1 := cell_of_row _ _ 1 _ _ _ hxD; have z2 := cell_of_row _ _ 2 _ _ _ hxD; have z3 := cell_of_row _ _ 3 _ _ _ hxD; (have tf : ∀ j, V2.frozen? ⟨V1.heap.size, j, none⟩ = false := fun j => by unfold World.frozen?; simp only [hxD]; simp); have tf0 := tf 0; have tf1 := tf 1; have tf2 := tf 2; have tf3 := tf 3; (obtain ⟨r1, r2⟩ := store4 hxD (.int .i64 z.e) (.slice A6 z.srv.length d6) (.slice A7 z.pts.length d7) (.int .i64 z.t)); (have hic7 := k1.stored hxD HFz.out.1 r2.size (fun q g1 g2 => r2.block q g1 (fun e => g2 (by injection e)))); have R6 := Lib.hid (HC4.of_row r1 hic7); have B3 := Lib.hid (B2.out.grown r2 B2.out.size (fun q hq => by cases hq; exact B1.out.size)); clear k1 k2 hxD tf r1 r2 hic7) | ((with_reducible refine (HRq.out _ _ I9.out).mono ?_); rintro e V2 ⟨v2q, rfl, k1, k2, -⟩; (have k1' := k1); (obtain ⟨sv6, pv6, rfl, ⟨A6, d6, rfl, -⟩, ⟨A7, d7, rfl, -⟩⟩ := k1'); have I10 := Lib.hid k1; have B2 := Lib.hid (B1.out.trans (k2.mono B1.out.size)); clear k1 k2)))
                | fail)
            all_goals
              clear HH
              go_wp2_with fail
              go_meet
              first
                | exact ⟨_, A6, d6, A7, d7, rfl, rfl, R6.out, B3.out⟩
                | exact ⟨_, A6, d6, A7, d7, rfl, rfl, HC4.made I10.out _, B2.out.alloc B2.out.size _⟩
          case rest =>
            obtain ⟨Bk, Ak1, ck1, Ak2, ck2, rfl, rfl, hnew, hb⟩ := hcut
            have Hk9 := Lib.hid hnew
            clear hnew
            have HB9 := Lib.hid (HB8.out.trans (hb.mono HB8.out.size))
            have Hc9 := Lib.hid (Hc8.out.below hb)
            have Hd9 := Lib.hid (Hd8.out.below hb)
            have Hx9 := Lib.hid (Hx8.out.below hb)
            have Hy9 := Lib.hid (Hy8.out.below hb)
            have Hz9 := Lib.hid (Hz8.out.below hb)
            have Ro9 := Lib.hid ((hb.block _ (lt_of Ro8.out)).trans Ro8.out)
            clear hb HB8 Hc8 c0 c1 c2 c3 Hd8 d0 d1 d2 d3 Hx8 x0 x1 x2 x3 Hy8 y0 y1 y2 y3 Hz8 z0 z1 z2 z3 Ro8
            obtain ⟨c0, c1, c2, c3⟩ := Hc9.out.cells
            obtain ⟨d0, d1, d2, d3⟩ := Hd9.out.cells
            obtain ⟨x0, x1, x2, x3⟩ := Hx9.out.cells
            obtain ⟨y0, y1, y2, y3⟩ := Hy9.out.cells
            obtain ⟨z0, z1, z2, z3⟩ := Hz9.out.cells
            obtain ⟨k0, k1, k2, k3⟩ := Hk9.out.cells
            go_wp2_with fail
            have HH := Lib.hid (show ∀ V, Below wc.heap.size wc V → (V.cell? ⟨W8.heap.size, 0, none⟩ = some (.int .i64 z.e) ∧ V.cell? ⟨W8.heap.size, 1, none⟩ = some (.slice Az1 z.srv.length cz1) ∧ V.cell? ⟨W8.heap.size, 2, none⟩ = some (.slice Az2 z.pts.length cz2) ∧ V.cell? ⟨W8.heap.size, 3, none⟩ = some (.int .i64 z.t)) ∧ (V.cell? ⟨Bk, 0, none⟩ = some (.int .i64 z.e) ∧ V.cell? ⟨Bk, 1, none⟩ = some (.slice Ak1 z.srv.length ck1) ∧ V.cell? ⟨Bk, 2, none⟩ = some (.slice Ak2 z.pts.length ck2) ∧ V.cell? ⟨Bk, 3, none⟩ = some (.int .i64 z.t)) from fun V h => by
              exact ⟨(Hz9.out.below h).cells, (Hk9.out.below h).cells⟩)
            have B0 := Lib.hid ((Below.refl wc.heap.size wc).drew)
            go_region_held3 (fun w' => (w'.cell? ⟨W8.heap.size, 0, none⟩ = some (.int .i64 z.e) ∧ w'.cell? ⟨W8.heap.size, 1, none⟩ = some (.slice Az1 z.srv.length cz1) ∧ w'.cell? ⟨W8.heap.size, 2, none⟩ = some (.slice Az2 z.pts.length cz2) ∧ w'.cell? ⟨W8.heap.size, 3, none⟩ = some (.int .i64 z.t)) ∧ (w'.cell? ⟨Bk, 0, none⟩ = some (.int .i64 z.e) ∧ w'.cell? ⟨Bk, 1, none⟩ = some (.slice Ak1 z.srv.length ck1) ∧ w'.cell? ⟨Bk, 2, none⟩ = some (.slice Ak2 z.pts.length ck2) ∧ w'.cell? ⟨Bk, 3, none⟩ = some (.int .i64 z.t)))
              (first | exact HH.out _ B2.out | exact HH.out _ B1.out | exact HH.out _ B0.out | fail)
              (first
                | (go_at_call 11; (first | ((with_reducible refine (theirs_any (Hz9.out.below B0.out).ic (by omega)).mono ?_); rintro e V1 ⟨v9, rfl, k1, k2⟩; have I9 := Lib.hid k1; have B1 := Lib.hid (B0.out.trans (k2.mono B0.out.size)); clear k1 k2)))
                | (go_at_call 15; (first | ((with_reducible refine (same12_any I9.out (Hk9.out.below B1.out).ic (by omega) (by omega)).mono ?_); rintro e V2 ⟨rfl, k2⟩; have B2 := Lib.hid (B1.out.trans (k2.mono B1.out.size)); clear k2)))
                | fail)
            all_goals
              clear HH
              have HBz := Lib.hid (HB9.out.trans (B2.out.mono HB9.out.size))
              go_wp2_with fail
              go_ret
              exact ⟨rfl, HW1.out.trans (HBz.out.mono HW1.out.size)⟩
end Go.Proofs.Ythjinpbclfankaa
