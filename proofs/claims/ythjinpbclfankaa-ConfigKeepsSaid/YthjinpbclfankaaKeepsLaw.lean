/-
  ConfigKeeps: the law answers true, whatever its arguments.
-/
import Derived.Test.YthjinpbclfankaaHc4
import Derived.Laws.EntriesVeiled
namespace Go.Proofs.Ythjinpbclfankaa
open Go.RowKit

set_option maxRecDepth 100000 in
theorem keeps_cop {c : Cf} (hok : c.ok) {o : Od} (h0 : (apl c o).2 = 0) {b : Int} (hb0 : 0 ≤ b) (hb : b < 256) :
    cop (apl c o).1.pts b = (if o.k = 2 then leaveC c.srv o.n (cop c.pts b) else if o.k = 3 then placeC c.pts o b else cop c.pts b) ∧ (o.k = 2 → o.n ∈ c.srv ∧ 3 ≤ c.srv.length) := by
  obtain ⟨-, -, hch, hd⟩ := apl_ok hok o h0
  rw [hd]
  show cop (change c o).2.pts b = _ ∧ _
  obtain ⟨-, h2, h3, h4⟩ := hok
  unfold change at hch ⊢
  by_cases k1 : o.k = 1
  · rw [if_pos k1] at hch ⊢
    rw [if_neg (show ¬ o.k = 2 by omega), if_neg (show ¬ o.k = 3 by omega)]
    refine ⟨?_, fun h => by omega⟩
    by_cases q1 : 0 ≤ o.n ∧ o.n < 8
    · rw [if_pos q1] at hch ⊢
      by_cases q2 : o.n ∈ c.srv
      · rw [if_pos q2] at hch; cases hch
      · rw [if_neg q2]
    · rw [if_neg q1] at hch; cases hch
  · rw [if_neg k1] at hch ⊢
    by_cases k2 : o.k = 2
    · rw [if_pos k2] at hch
      rw [if_pos k2, if_pos k2]
      by_cases q1 : o.n ∈ c.srv
      · rw [if_pos q1] at hch ⊢
        by_cases q2 : c.srv.length ≤ 2
        · rw [if_pos q2] at hch; cases hch
        · rw [if_neg q2]
          refine ⟨?_, fun _ => ⟨q1, by omega⟩⟩
          dsimp only
          exact pts_cop (srv := goneS c.srv o.n) (g := fun k => leaveC c.srv o.n (cop c.pts k)) (fun k g1 g2 => by
            obtain ⟨a, b, d⟩ := cop_ok h4 g1 g2
            exact leaveC_ok (by omega) ((srvOk_iff' _).1 h3).2 a b d) hb0 hb
      · rw [if_neg q1] at hch; cases hch
    · rw [if_neg k2] at hch
      rw [if_neg k2, if_neg k2]
      refine ⟨?_, fun h => absurd h k2⟩
      by_cases k3 : o.k = 3
      · rw [if_pos k3] at hch
        rw [if_pos k3, if_pos k3]
        by_cases q1 : o.f < 0 ∨ o.t > 256 ∨ o.f ≥ o.t
        · rw [if_pos q1] at hch; cases hch
        · rw [if_neg q1] at hch ⊢
          by_cases q2 : o.n = o.m
          · rw [if_pos q2] at hch; cases hch
          · rw [if_neg q2] at hch ⊢
            by_cases q3 : o.n ∈ c.srv ∧ o.m ∈ c.srv
            · rw [if_pos q3]
              dsimp only
              exact pts_cop (srv := c.srv) (g := placeC c.pts o) (fun k g1 g2 => by
                unfold placeC
                split
                · exact ⟨q3.1, q3.2, q2⟩
                · exact cop_ok h4 g1 g2) hb0 hb
            · rw [if_neg q3] at hch; cases hch
      · rw [if_neg k3] at hch
        rw [if_neg k3, if_neg k3]
        by_cases k4 : o.k = 4
        · rw [if_pos k4] at hch ⊢
          by_cases q1 : 1 ≤ o.n ∧ o.n ≤ 8
          · rw [if_pos q1]
          · rw [if_neg q1] at hch; cases hch
        · rw [if_neg k4] at hch; cases hch
set_option maxRecDepth 100000 in
set_option maxHeartbeats 8000000 in
theorem keepsLaw_any {w : World} {v : Value} {l : List Od} (hO : InO w v l) (hl : l.length ≤ 9223372036854775807) (o : Od) (b : Int) :
    Calls Try.prog 5 #[v, o.val, .int .i64 b] w fun e w' => e = .returned (.bool true) ∧ Below w.heap.size w w' := by
  obtain ⟨ok, n, m, f, t⟩ := o
  show Calls _ _ #[_, .agg #[.int .i64 ok, .int .i64 n, .int .i64 m, .int .i64 f, .int .i64 t], _] w _
  have hS : ∃ A cap, v = .slice A l.length cap := by (obtain ⟨A, cap, e, -⟩ := hO; exact ⟨A, cap, e⟩)
  obtain ⟨A, cap, rfl⟩ := hS
  have hw1 : Below w.heap.size w (w.alloc (.cells #[.int .i64 ok, .int .i64 n, .int .i64 m, .int .i64 f, .int .i64 t] 30)) := (Below.refl _ _).alloc (Nat.le_refl _) _
  have HOR := Lib.hid (fun (W : World) (hW : Below (w.alloc (.cells #[.int .i64 ok, .int .i64 n, .int .i64 m, .int .i64 f, .int .i64 t] 30)).heap.size (w.alloc (.cells #[.int .i64 ok, .int .i64 n, .int .i64 m, .int .i64 f, .int .i64 t] 30)) W) => (hW.block w.heap.size (by simp)).trans (heap_alloc_new w (.cells #[.int .i64 ok, .int .i64 n, .int .i64 m, .int .i64 f, .int .i64 t] 30)))
  have HAf := Lib.hid (fun (W : World) (hW : Below (w.alloc (.cells #[.int .i64 ok, .int .i64 n, .int .i64 m, .int .i64 f, .int .i64 t] 30)).heap.size (w.alloc (.cells #[.int .i64 ok, .int .i64 n, .int .i64 m, .int .i64 f, .int .i64 t] 30)) W) => after_any ((hO.below hw1).below hW) hl)
  have HW1 := Lib.hid hw1
  have HB0 := Lib.hid (Below.refl (w.alloc (.cells #[.int .i64 ok, .int .i64 n, .int .i64 m, .int .i64 f, .int .i64 t] 30)).heap.size (w.alloc (.cells #[.int .i64 ok, .int .i64 n, .int .i64 m, .int .i64 f, .int .i64 t] 30)))
  have hok := (aft_ok l).1
  have hfew := hok.few
  have hae := (aft_ok l).2
  clear hO hw1
  generalize aft l = c at HAf hok hfew hae
  have HCk := Lib.hid (fun (W : World) (u : Value) (h : IC W u c) => show Calls Try.prog 9 #[u] W fun e w' => e = .returned (.int .i64 0) ∧ Below W.heap.size W w' by (have := check_any h (by omega) (by omega); rw [chk_ok hok] at this; exact this))
  by_cases her : (apl c ⟨ok, n, m, f, t⟩).2 = 0
  case neg =>
    obtain ⟨⟨d, er⟩, hap⟩ : ∃ r, apl c ⟨ok, n, m, f, t⟩ = r := ⟨_, rfl⟩
    rw [hap] at her
    obtain ⟨⟨qa, qb, qf⟩, hwe⟩ : ∃ q, whrE c.pts b = q := ⟨_, rfl⟩
    have HW := Lib.hid (fun (W : World) (u : Value) (h : IC W u c) => show Calls Try.prog 16 #[u, .int .i64 b] W fun e w' => e = .returned (.tuple #[.int .i64 qa, .int .i64 qb, .int .i64 qf]) ∧ Below W.heap.size W w' by (have := where_any h hok (by omega) b; rw [hwe] at this; exact this))
    have HAp := Lib.hid (fun (W : World) (u : Value) (h : IC W u c) => show Calls Try.prog 13 #[u, .agg #[.int .i64 ok, .int .i64 n, .int .i64 m, .int .i64 f, .int .i64 t]] W fun e w' => ∃ v', e = .returned (.tuple #[v', .int .i64 er]) ∧ IC w' v' d ∧ Below W.heap.size W w' ∧ OffK W u v' by (have := apply_any h (by omega) (by omega) ⟨ok, n, m, f, t⟩; rw [hap] at this; exact this))
    have e1 : (er != 0) = true := by simpa using her
    clear hap hwe her
    go_enter Try.func5, Try.ntmps5
    go_wp2_with fail
    go_at_call 8
    refine (shown_any _).mono ?_
    rintro e W1 ⟨rfl, hb⟩
    have HB1 := Lib.hid (HB0.out.trans (hb.mono HB0.out.size))
    clear hb HB0 
    go_wp2_with fail
    go_at_call 12
    refine (HAf.out _ HB1.out).mono ?_
    rintro e W2 ⟨vy, rfl, hic, hb⟩
    have hic2 := hic
    obtain ⟨svy, pvy, rfl, ⟨Ay1, cy1, rfl, -⟩, ⟨Ay2, cy2, rfl, -⟩⟩ := hic2
    have hal := (Below.refl W2.heap.size W2).alloc (Nat.le_refl _) (.cells #[.int .i64 c.e, .slice Ay1 c.srv.length cy1, .slice Ay2 c.pts.length cy2, .int .i64 c.t] 26)
    have hb := hb.trans (hal.mono hb.size)
    have Hy2 := Lib.hid (HC4.made hic 26)
    clear hic hal
    have HB2 := Lib.hid (HB1.out.trans (hb.mono HB1.out.size))
    clear hb HB1 
    obtain ⟨y0, y1, y2, y3⟩ := Hy2.out.cells
    have hor := HOR.out _ HB2.out
    have o0 := cell_of_row _ _ 0 _ _ _ hor
    have o1 := cell_of_row _ _ 1 _ _ _ hor
    have o2 := cell_of_row _ _ 2 _ _ _ hor
    have o3 := cell_of_row _ _ 3 _ _ _ hor
    have o4 := cell_of_row _ _ 4 _ _ _ hor
    clear hor
    go_wp2_with fail
    go_at_call 13
    refine (HAp.out _ _ Hy2.out.ic).mono ?_
    rintro e W3 ⟨vd, rfl, hic, hb, -⟩
    have hic2 := hic
    obtain ⟨svd, pvd, rfl, ⟨Ad1, cd1, rfl, -⟩, ⟨Ad2, cd2, rfl, -⟩⟩ := hic2
    have hal := (Below.refl W3.heap.size W3).alloc (Nat.le_refl _) (.cells #[.int .i64 d.e, .slice Ad1 d.srv.length cd1, .slice Ad2 d.pts.length cd2, .int .i64 d.t] 26)
    have hb := hb.trans (hal.mono hb.size)
    have Hd3 := Lib.hid (HC4.made hic 26)
    clear hic hal
    have HB3 := Lib.hid (HB2.out.trans (hb.mono HB2.out.size))
    have Hy3 := Lib.hid (Hy2.out.below hb)
    clear hb HB2 Hy2 y0 y1 y2 y3
    obtain ⟨y0, y1, y2, y3⟩ := Hy3.out.cells
    obtain ⟨d0, d1, d2, d3⟩ := Hd3.out.cells
    clear o0 o1 o2 o3 o4
    go_wp2_with fail
    go_at_call 16
    refine (HW.out _ _ Hy3.out.ic).mono ?_
    rintro e W4 ⟨rfl, hb⟩
    have HB4 := Lib.hid (HB3.out.trans (hb.mono HB3.out.size))
    have Hy4 := Lib.hid (Hy3.out.below hb)
    have Hd4 := Lib.hid (Hd3.out.below hb)
    clear hb HB3 Hy3 y0 y1 y2 y3 Hd3 d0 d1 d2 d3
    obtain ⟨y0, y1, y2, y3⟩ := Hy4.out.cells
    obtain ⟨d0, d1, d2, d3⟩ := Hd4.out.cells
    go_wp2_with fail
    go_at_call 9
    refine (HCk.out _ _ Hy4.out.ic).mono ?_
    rintro e W5 ⟨rfl, hb⟩
    have HB5 := Lib.hid (HB4.out.trans (hb.mono HB4.out.size))
    have Hy5 := Lib.hid (Hy4.out.below hb)
    have Hd5 := Lib.hid (Hd4.out.below hb)
    clear hb HB4 Hy4 y0 y1 y2 y3 Hd4 d0 d1 d2 d3
    obtain ⟨y0, y1, y2, y3⟩ := Hy5.out.cells
    obtain ⟨d0, d1, d2, d3⟩ := Hd5.out.cells
    go_wp2_with fail
    go_ret
    exact ⟨rfl, HW1.out.trans (HB5.out.mono HW1.out.size)⟩
  case pos =>
  have hdok := (apl_ok hok _ her).1
  have hkc := keeps_cop hok her (b := b)
  obtain ⟨⟨d, er⟩, hap⟩ : ∃ r, apl c ⟨ok, n, m, f, t⟩ = r := ⟨_, rfl⟩
  rw [hap] at her hdok hkc
  obtain rfl : er = 0 := her
  have hdok : d.ok := hdok
  have hdf := hdok.few
  have HAp := Lib.hid (fun (W : World) (u : Value) (h : IC W u c) => show Calls Try.prog 13 #[u, .agg #[.int .i64 ok, .int .i64 n, .int .i64 m, .int .i64 f, .int .i64 t]] W fun e w' => ∃ v', e = .returned (.tuple #[v', .int .i64 0]) ∧ IC w' v' d ∧ Below W.heap.size W w' ∧ OffK W u v' by (have := apply_any h (by omega) (by omega) ⟨ok, n, m, f, t⟩; rw [hap] at this; exact this))
  clear hap
  by_cases hb0 : 0 ≤ b ∧ b < 256
  case neg =>
    have hwe := whrE_none (whr_none hok.2.2.2 (k := b) (by omega))
    have HW := Lib.hid (fun (W : World) (u : Value) (h : IC W u c) => show Calls Try.prog 16 #[u, .int .i64 b] W fun e w' => e = .returned (.tuple #[.int .i64 0, .int .i64 0, .int .i64 71]) ∧ Below W.heap.size W w' by (have := where_any h hok (by omega) b; rw [hwe] at this; exact this))
    clear hwe hkc
    go_enter Try.func5, Try.ntmps5
    go_wp2_with fail
    go_at_call 8
    refine (shown_any _).mono ?_
    rintro e W1 ⟨rfl, hb⟩
    have HB1 := Lib.hid (HB0.out.trans (hb.mono HB0.out.size))
    clear hb HB0 
    go_wp2_with fail
    go_at_call 12
    refine (HAf.out _ HB1.out).mono ?_
    rintro e W2 ⟨vy, rfl, hic, hb⟩
    have hic2 := hic
    obtain ⟨svy, pvy, rfl, ⟨Ay1, cy1, rfl, -⟩, ⟨Ay2, cy2, rfl, -⟩⟩ := hic2
    have hal := (Below.refl W2.heap.size W2).alloc (Nat.le_refl _) (.cells #[.int .i64 c.e, .slice Ay1 c.srv.length cy1, .slice Ay2 c.pts.length cy2, .int .i64 c.t] 26)
    have hb := hb.trans (hal.mono hb.size)
    have Hy2 := Lib.hid (HC4.made hic 26)
    clear hic hal
    have HB2 := Lib.hid (HB1.out.trans (hb.mono HB1.out.size))
    clear hb HB1 
    obtain ⟨y0, y1, y2, y3⟩ := Hy2.out.cells
    have hor := HOR.out _ HB2.out
    have o0 := cell_of_row _ _ 0 _ _ _ hor
    have o1 := cell_of_row _ _ 1 _ _ _ hor
    have o2 := cell_of_row _ _ 2 _ _ _ hor
    have o3 := cell_of_row _ _ 3 _ _ _ hor
    have o4 := cell_of_row _ _ 4 _ _ _ hor
    clear hor
    go_wp2_with fail
    go_at_call 13
    refine (HAp.out _ _ Hy2.out.ic).mono ?_
    rintro e W3 ⟨vd, rfl, hic, hb, -⟩
    have hic2 := hic
    obtain ⟨svd, pvd, rfl, ⟨Ad1, cd1, rfl, -⟩, ⟨Ad2, cd2, rfl, -⟩⟩ := hic2
    have hal := (Below.refl W3.heap.size W3).alloc (Nat.le_refl _) (.cells #[.int .i64 d.e, .slice Ad1 d.srv.length cd1, .slice Ad2 d.pts.length cd2, .int .i64 d.t] 26)
    have hb := hb.trans (hal.mono hb.size)
    have Hd3 := Lib.hid (HC4.made hic 26)
    clear hic hal
    have HB3 := Lib.hid (HB2.out.trans (hb.mono HB2.out.size))
    have Hy3 := Lib.hid (Hy2.out.below hb)
    clear hb HB2 Hy2 y0 y1 y2 y3
    obtain ⟨y0, y1, y2, y3⟩ := Hy3.out.cells
    obtain ⟨d0, d1, d2, d3⟩ := Hd3.out.cells
    clear o0 o1 o2 o3 o4
    go_wp2_with fail
    go_at_call 16
    refine (HW.out _ _ Hy3.out.ic).mono ?_
    rintro e W4 ⟨rfl, hb⟩
    have HB4 := Lib.hid (HB3.out.trans (hb.mono HB3.out.size))
    have Hy4 := Lib.hid (Hy3.out.below hb)
    have Hd4 := Lib.hid (Hd3.out.below hb)
    clear hb HB3 Hy3 y0 y1 y2 y3 Hd3 d0 d1 d2 d3
    obtain ⟨y0, y1, y2, y3⟩ := Hy4.out.cells
    obtain ⟨d0, d1, d2, d3⟩ := Hd4.out.cells
    go_wp2_with fail
    go_at_call 9
    refine (HCk.out _ _ Hy4.out.ic).mono ?_
    rintro e W5 ⟨rfl, hb⟩
    have HB5 := Lib.hid (HB4.out.trans (hb.mono HB4.out.size))
    have Hy5 := Lib.hid (Hy4.out.below hb)
    have Hd5 := Lib.hid (Hd4.out.below hb)
    clear hb HB4 Hy4 y0 y1 y2 y3 Hd4 d0 d1 d2 d3
    obtain ⟨y0, y1, y2, y3⟩ := Hy5.out.cells
    obtain ⟨d0, d1, d2, d3⟩ := Hd5.out.cells
    go_wp2_with fail
    go_ret
    exact ⟨rfl, HW1.out.trans (HB5.out.mono HW1.out.size)⟩
  case pos =>
  obtain ⟨hkc, hk2⟩ := hkc hb0.1 hb0.2
  have hwc := whrE_some (whr_cop hok.2.2.2 hb0.1 hb0.2)
  have hwd := whrE_some (whr_cop hdok.2.2.2 hb0.1 hb0.2)
  obtain ⟨c1, c2, c3⟩ := cop_ok hok.2.2.2 hb0.1 hb0.2
  obtain ⟨⟨xd, yd⟩, hxd⟩ : ∃ x, cop d.pts b = x := ⟨_, rfl⟩
  rw [hxd] at hkc hwd
  have hpl : placeC c.pts ⟨ok, n, m, f, t⟩ b = if f ≤ b ∧ b < t then (n, m) else cop c.pts b := rfl
  obtain ⟨⟨xa, xb⟩, hxa⟩ : ∃ x, cop c.pts b = x := ⟨_, rfl⟩
  rw [hpl, hxa] at hkc
  rw [hxa] at hwc c1 c2 c3
  have HW := Lib.hid (fun (W : World) (u : Value) (h : IC W u c) => show Calls Try.prog 16 #[u, .int .i64 b] W fun e w' => e = .returned (.tuple #[.int .i64 xa, .int .i64 xb, .int .i64 0]) ∧ Below W.heap.size W w' by (have := where_any h hok (by omega) b; rw [hwc] at this; exact this))
  have HWd := Lib.hid (fun (W : World) (u : Value) (h : IC W u d) => show Calls Try.prog 16 #[u, .int .i64 b] W fun e w' => e = .returned (.tuple #[.int .i64 xd, .int .i64 yd, .int .i64 0]) ∧ Below W.heap.size W w' by (have := where_any h hdok (by omega) b; rw [hwd] at this; exact this))
  replace hkc : (xd, yd) = if ok = 2 then leaveC c.srv n (xa, xb) else if ok = 3 then (if f ≤ b ∧ b < t then (n, m) else (xa, xb)) else (xa, xb) := hkc
  have hsl := ((srvOk_iff' _).1 hok.2.2.1).2
  replace hk2 : ok = 2 → n ∈ c.srv ∧ 3 ≤ c.srv.length := hk2
  replace c3 : xa ≠ xb := c3
  clear hwc hwd hxd hxa hpl c1 c2 hdok
  by_cases hk : ok = 2
  case pos =>
    subst hk
    obtain ⟨hnc, hn3⟩ := hk2 rfl
    rw [if_pos rfl] at hkc
    unfold leaveC at hkc
    by_cases ha : xa = n
    case pos =>
      subst ha
      rw [if_pos rfl] at hkc
      obtain ⟨-, h2, h3⟩ := othS_ok (a := xa) (b := xb) hn3 hsl
      simp only [Prod.mk.injEq] at hkc
      obtain ⟨rfl, rfl⟩ := hkc
      generalize hot : othS c.srv xa yd = q at *
      have e2 : (q != xa) = true := by simpa using h2
      have e3 : (yd != xa) = true := by simpa using fun e : yd = xa => c3 e.symm
      have e4 : (q == xa) = false := by simpa using h2
      clear hot h2 h3 hsl hk2 c3
      go_enter Try.func5, Try.ntmps5
      go_wp2_with fail
      go_at_call 8
      refine (shown_any _).mono ?_
      rintro e W1 ⟨rfl, hb⟩
      have HB1 := Lib.hid (HB0.out.trans (hb.mono HB0.out.size))
      clear hb HB0 
      go_wp2_with fail
      go_at_call 12
      refine (HAf.out _ HB1.out).mono ?_
      rintro e W2 ⟨vy, rfl, hic, hb⟩
      have hic2 := hic
      obtain ⟨svy, pvy, rfl, ⟨Ay1, cy1, rfl, -⟩, ⟨Ay2, cy2, rfl, -⟩⟩ := hic2
      have hal := (Below.refl W2.heap.size W2).alloc (Nat.le_refl _) (.cells #[.int .i64 c.e, .slice Ay1 c.srv.length cy1, .slice Ay2 c.pts.length cy2, .int .i64 c.t] 26)
      have hb := hb.trans (hal.mono hb.size)
      have Hy2 := Lib.hid (HC4.made hic 26)
      clear hic hal
      have HB2 := Lib.hid (HB1.out.trans (hb.mono HB1.out.size))
      clear hb HB1 
      obtain ⟨y0, y1, y2, y3⟩ := Hy2.out.cells
      have hor := HOR.out _ HB2.out
      have o0 := cell_of_row _ _ 0 _ _ _ hor
      have o1 := cell_of_row _ _ 1 _ _ _ hor
      have o2 := cell_of_row _ _ 2 _ _ _ hor
      have o3 := cell_of_row _ _ 3 _ _ _ hor
      have o4 := cell_of_row _ _ 4 _ _ _ hor
      clear hor
      go_wp2_with fail
      go_at_call 13
      refine (HAp.out _ _ Hy2.out.ic).mono ?_
      rintro e W3 ⟨vd, rfl, hic, hb, -⟩
      have hic2 := hic
      obtain ⟨svd, pvd, rfl, ⟨Ad1, cd1, rfl, -⟩, ⟨Ad2, cd2, rfl, -⟩⟩ := hic2
      have hal := (Below.refl W3.heap.size W3).alloc (Nat.le_refl _) (.cells #[.int .i64 d.e, .slice Ad1 d.srv.length cd1, .slice Ad2 d.pts.length cd2, .int .i64 d.t] 26)
      have hb := hb.trans (hal.mono hb.size)
      have Hd3 := Lib.hid (HC4.made hic 26)
      clear hic hal
      have HB3 := Lib.hid (HB2.out.trans (hb.mono HB2.out.size))
      have Hy3 := Lib.hid (Hy2.out.below hb)
      clear hb HB2 Hy2 y0 y1 y2 y3
      obtain ⟨y0, y1, y2, y3⟩ := Hy3.out.cells
      obtain ⟨d0, d1, d2, d3⟩ := Hd3.out.cells
      clear o0 o1 o2 o3 o4
      go_wp2_with fail
      go_at_call 16
      refine (HW.out _ _ Hy3.out.ic).mono ?_
      rintro e W4 ⟨rfl, hb⟩
      have HB4 := Lib.hid (HB3.out.trans (hb.mono HB3.out.size))
      have Hy4 := Lib.hid (Hy3.out.below hb)
      have Hd4 := Lib.hid (Hd3.out.below hb)
      clear hb HB3 Hy3 y0 y1 y2 y3 Hd3 d0 d1 d2 d3
      obtain ⟨y0, y1, y2, y3⟩ := Hy4.out.cells
      obtain ⟨d0, d1, d2, d3⟩ := Hd4.out.cells
      go_wp2_with fail
      go_at_call 16
      refine (HWd.out _ _ Hd4.out.ic).mono ?_
      rintro e W5 ⟨rfl, hb⟩
      have HB5 := Lib.hid (HB4.out.trans (hb.mono HB4.out.size))
      have Hy5 := Lib.hid (Hy4.out.below hb)
      have Hd5 := Lib.hid (Hd4.out.below hb)
      clear hb HB4 Hy4 y0 y1 y2 y3 Hd4 d0 d1 d2 d3
      obtain ⟨y0, y1, y2, y3⟩ := Hy5.out.cells
      obtain ⟨d0, d1, d2, d3⟩ := Hd5.out.cells
      have hor := HOR.out _ HB5.out
      have o0 := cell_of_row _ _ 0 _ _ _ hor
      have o1 := cell_of_row _ _ 1 _ _ _ hor
      have o2 := cell_of_row _ _ 2 _ _ _ hor
      have o3 := cell_of_row _ _ 3 _ _ _ hor
      have o4 := cell_of_row _ _ 4 _ _ _ hor
      clear hor
      go_wp2_with fail
      go_ret
      exact ⟨rfl, HW1.out.trans (HB5.out.mono HW1.out.size)⟩
    case neg =>
      rw [if_neg (show ¬ (xa, xb).1 = n from ha)] at hkc
      have e1 : (xa != n) = true := by simpa using ha
      by_cases hb1 : xb = n
      case pos =>
        subst hb1
        rw [if_pos rfl] at hkc
        obtain ⟨-, h2, h3⟩ := othS_ok (a := xb) (b := xa) hn3 hsl
        simp only [Prod.mk.injEq] at hkc
        obtain ⟨rfl, rfl⟩ := hkc
        generalize hot : othS c.srv xb xd = q at *
        have e2 : (q != xb) = true := by simpa using h2
        clear hot h2 h3 hsl hk2 c3 ha
        go_enter Try.func5, Try.ntmps5
        go_wp2_with fail
        go_at_call 8
        refine (shown_any _).mono ?_
        rintro e W1 ⟨rfl, hb⟩
        have HB1 := Lib.hid (HB0.out.trans (hb.mono HB0.out.size))
        clear hb HB0 
        go_wp2_with fail
        go_at_call 12
        refine (HAf.out _ HB1.out).mono ?_
        rintro e W2 ⟨vy, rfl, hic, hb⟩
        have hic2 := hic
        obtain ⟨svy, pvy, rfl, ⟨Ay1, cy1, rfl, -⟩, ⟨Ay2, cy2, rfl, -⟩⟩ := hic2
        have hal := (Below.refl W2.heap.size W2).alloc (Nat.le_refl _) (.cells #[.int .i64 c.e, .slice Ay1 c.srv.length cy1, .slice Ay2 c.pts.length cy2, .int .i64 c.t] 26)
        have hb := hb.trans (hal.mono hb.size)
        have Hy2 := Lib.hid (HC4.made hic 26)
        clear hic hal
        have HB2 := Lib.hid (HB1.out.trans (hb.mono HB1.out.size))
        clear hb HB1 
        obtain ⟨y0, y1, y2, y3⟩ := Hy2.out.cells
        have hor := HOR.out _ HB2.out
        have o0 := cell_of_row _ _ 0 _ _ _ hor
        have o1 := cell_of_row _ _ 1 _ _ _ hor
        have o2 := cell_of_row _ _ 2 _ _ _ hor
        have o3 := cell_of_row _ _ 3 _ _ _ hor
        have o4 := cell_of_row _ _ 4 _ _ _ hor
        clear hor
        go_wp2_with fail
        go_at_call 13
        refine (HAp.out _ _ Hy2.out.ic).mono ?_
        rintro e W3 ⟨vd, rfl, hic, hb, -⟩
        have hic2 := hic
        obtain ⟨svd, pvd, rfl, ⟨Ad1, cd1, rfl, -⟩, ⟨Ad2, cd2, rfl, -⟩⟩ := hic2
        have hal := (Below.refl W3.heap.size W3).alloc (Nat.le_refl _) (.cells #[.int .i64 d.e, .slice Ad1 d.srv.length cd1, .slice Ad2 d.pts.length cd2, .int .i64 d.t] 26)
        have hb := hb.trans (hal.mono hb.size)
        have Hd3 := Lib.hid (HC4.made hic 26)
        clear hic hal
        have HB3 := Lib.hid (HB2.out.trans (hb.mono HB2.out.size))
        have Hy3 := Lib.hid (Hy2.out.below hb)
        clear hb HB2 Hy2 y0 y1 y2 y3
        obtain ⟨y0, y1, y2, y3⟩ := Hy3.out.cells
        obtain ⟨d0, d1, d2, d3⟩ := Hd3.out.cells
        clear o0 o1 o2 o3 o4
        go_wp2_with fail
        go_at_call 16
        refine (HW.out _ _ Hy3.out.ic).mono ?_
        rintro e W4 ⟨rfl, hb⟩
        have HB4 := Lib.hid (HB3.out.trans (hb.mono HB3.out.size))
        have Hy4 := Lib.hid (Hy3.out.below hb)
        have Hd4 := Lib.hid (Hd3.out.below hb)
        clear hb HB3 Hy3 y0 y1 y2 y3 Hd3 d0 d1 d2 d3
        obtain ⟨y0, y1, y2, y3⟩ := Hy4.out.cells
        obtain ⟨d0, d1, d2, d3⟩ := Hd4.out.cells
        go_wp2_with fail
        go_at_call 16
        refine (HWd.out _ _ Hd4.out.ic).mono ?_
        rintro e W5 ⟨rfl, hb⟩
        have HB5 := Lib.hid (HB4.out.trans (hb.mono HB4.out.size))
        have Hy5 := Lib.hid (Hy4.out.below hb)
        have Hd5 := Lib.hid (Hd4.out.below hb)
        clear hb HB4 Hy4 y0 y1 y2 y3 Hd4 d0 d1 d2 d3
        obtain ⟨y0, y1, y2, y3⟩ := Hy5.out.cells
        obtain ⟨d0, d1, d2, d3⟩ := Hd5.out.cells
        have hor := HOR.out _ HB5.out
        have o0 := cell_of_row _ _ 0 _ _ _ hor
        have o1 := cell_of_row _ _ 1 _ _ _ hor
        have o2 := cell_of_row _ _ 2 _ _ _ hor
        have o3 := cell_of_row _ _ 3 _ _ _ hor
        have o4 := cell_of_row _ _ 4 _ _ _ hor
        clear hor
        go_wp2_with fail
        go_ret
        exact ⟨rfl, HW1.out.trans (HB5.out.mono HW1.out.size)⟩
      case neg =>
        rw [if_neg (show ¬ (xa, xb).2 = n from hb1)] at hkc
        simp only [Prod.mk.injEq] at hkc
        obtain ⟨rfl, rfl⟩ := hkc
        have e2 : (yd != n) = true := by simpa using hb1
        clear hsl hk2 c3 ha hb1
        go_enter Try.func5, Try.ntmps5
        go_wp2_with fail
        go_at_call 8
        refine (shown_any _).mono ?_
        rintro e W1 ⟨rfl, hb⟩
        have HB1 := Lib.hid (HB0.out.trans (hb.mono HB0.out.size))
        clear hb HB0 
        go_wp2_with fail
        go_at_call 12
        refine (HAf.out _ HB1.out).mono ?_
        rintro e W2 ⟨vy, rfl, hic, hb⟩
        have hic2 := hic
        obtain ⟨svy, pvy, rfl, ⟨Ay1, cy1, rfl, -⟩, ⟨Ay2, cy2, rfl, -⟩⟩ := hic2
        have hal := (Below.refl W2.heap.size W2).alloc (Nat.le_refl _) (.cells #[.int .i64 c.e, .slice Ay1 c.srv.length cy1, .slice Ay2 c.pts.length cy2, .int .i64 c.t] 26)
        have hb := hb.trans (hal.mono hb.size)
        have Hy2 := Lib.hid (HC4.made hic 26)
        clear hic hal
        have HB2 := Lib.hid (HB1.out.trans (hb.mono HB1.out.size))
        clear hb HB1 
        obtain ⟨y0, y1, y2, y3⟩ := Hy2.out.cells
        have hor := HOR.out _ HB2.out
        have o0 := cell_of_row _ _ 0 _ _ _ hor
        have o1 := cell_of_row _ _ 1 _ _ _ hor
        have o2 := cell_of_row _ _ 2 _ _ _ hor
        have o3 := cell_of_row _ _ 3 _ _ _ hor
        have o4 := cell_of_row _ _ 4 _ _ _ hor
        clear hor
        go_wp2_with fail
        go_at_call 13
        refine (HAp.out _ _ Hy2.out.ic).mono ?_
        rintro e W3 ⟨vd, rfl, hic, hb, -⟩
        have hic2 := hic
        obtain ⟨svd, pvd, rfl, ⟨Ad1, cd1, rfl, -⟩, ⟨Ad2, cd2, rfl, -⟩⟩ := hic2
        have hal := (Below.refl W3.heap.size W3).alloc (Nat.le_refl _) (.cells #[.int .i64 d.e, .slice Ad1 d.srv.length cd1, .slice Ad2 d.pts.length cd2, .int .i64 d.t] 26)
        have hb := hb.trans (hal.mono hb.size)
        have Hd3 := Lib.hid (HC4.made hic 26)
        clear hic hal
        have HB3 := Lib.hid (HB2.out.trans (hb.mono HB2.out.size))
        have Hy3 := Lib.hid (Hy2.out.below hb)
        clear hb HB2 Hy2 y0 y1 y2 y3
        obtain ⟨y0, y1, y2, y3⟩ := Hy3.out.cells
        obtain ⟨d0, d1, d2, d3⟩ := Hd3.out.cells
        clear o0 o1 o2 o3 o4
        go_wp2_with fail
        go_at_call 16
        refine (HW.out _ _ Hy3.out.ic).mono ?_
        rintro e W4 ⟨rfl, hb⟩
        have HB4 := Lib.hid (HB3.out.trans (hb.mono HB3.out.size))
        have Hy4 := Lib.hid (Hy3.out.below hb)
        have Hd4 := Lib.hid (Hd3.out.below hb)
        clear hb HB3 Hy3 y0 y1 y2 y3 Hd3 d0 d1 d2 d3
        obtain ⟨y0, y1, y2, y3⟩ := Hy4.out.cells
        obtain ⟨d0, d1, d2, d3⟩ := Hd4.out.cells
        go_wp2_with fail
        go_at_call 16
        refine (HWd.out _ _ Hd4.out.ic).mono ?_
        rintro e W5 ⟨rfl, hb⟩
        have HB5 := Lib.hid (HB4.out.trans (hb.mono HB4.out.size))
        have Hy5 := Lib.hid (Hy4.out.below hb)
        have Hd5 := Lib.hid (Hd4.out.below hb)
        clear hb HB4 Hy4 y0 y1 y2 y3 Hd4 d0 d1 d2 d3
        obtain ⟨y0, y1, y2, y3⟩ := Hy5.out.cells
        obtain ⟨d0, d1, d2, d3⟩ := Hd5.out.cells
        have hor := HOR.out _ HB5.out
        have o0 := cell_of_row _ _ 0 _ _ _ hor
        have o1 := cell_of_row _ _ 1 _ _ _ hor
        have o2 := cell_of_row _ _ 2 _ _ _ hor
        have o3 := cell_of_row _ _ 3 _ _ _ hor
        have o4 := cell_of_row _ _ 4 _ _ _ hor
        clear hor
        go_wp2_with fail
        go_ret
        exact ⟨rfl, HW1.out.trans (HB5.out.mono HW1.out.size)⟩
  case neg =>
  rw [if_neg hk] at hkc
  have k2 : (ok == 2) = false := by simpa using hk
  clear hk hk2 hsl c3
  by_cases hk3 : ok = 3
  case pos =>
    subst hk3
    clear k2
    rw [if_pos rfl] at hkc
    by_cases hin : f ≤ b ∧ b < t
    case pos =>
      rw [if_pos hin] at hkc
      simp only [Prod.mk.injEq] at hkc
      obtain ⟨rfl, rfl⟩ := hkc
      have d1 : decide (f ≤ b) = true := decide_eq_true hin.1
      have d2 : decide (b < t) = true := decide_eq_true hin.2
      go_enter Try.func5, Try.ntmps5
      go_wp2_with fail
      go_at_call 8
      refine (shown_any _).mono ?_
      rintro e W1 ⟨rfl, hb⟩
      have HB1 := Lib.hid (HB0.out.trans (hb.mono HB0.out.size))
      clear hb HB0 
      go_wp2_with fail
      go_at_call 12
      refine (HAf.out _ HB1.out).mono ?_
      rintro e W2 ⟨vy, rfl, hic, hb⟩
      have hic2 := hic
      obtain ⟨svy, pvy, rfl, ⟨Ay1, cy1, rfl, -⟩, ⟨Ay2, cy2, rfl, -⟩⟩ := hic2
      have hal := (Below.refl W2.heap.size W2).alloc (Nat.le_refl _) (.cells #[.int .i64 c.e, .slice Ay1 c.srv.length cy1, .slice Ay2 c.pts.length cy2, .int .i64 c.t] 26)
      have hb := hb.trans (hal.mono hb.size)
      have Hy2 := Lib.hid (HC4.made hic 26)
      clear hic hal
      have HB2 := Lib.hid (HB1.out.trans (hb.mono HB1.out.size))
      clear hb HB1 
      obtain ⟨y0, y1, y2, y3⟩ := Hy2.out.cells
      have hor := HOR.out _ HB2.out
      have o0 := cell_of_row _ _ 0 _ _ _ hor
      have o1 := cell_of_row _ _ 1 _ _ _ hor
      have o2 := cell_of_row _ _ 2 _ _ _ hor
      have o3 := cell_of_row _ _ 3 _ _ _ hor
      have o4 := cell_of_row _ _ 4 _ _ _ hor
      clear hor
      go_wp2_with fail
      go_at_call 13
      refine (HAp.out _ _ Hy2.out.ic).mono ?_
      rintro e W3 ⟨vd, rfl, hic, hb, -⟩
      have hic2 := hic
      obtain ⟨svd, pvd, rfl, ⟨Ad1, cd1, rfl, -⟩, ⟨Ad2, cd2, rfl, -⟩⟩ := hic2
      have hal := (Below.refl W3.heap.size W3).alloc (Nat.le_refl _) (.cells #[.int .i64 d.e, .slice Ad1 d.srv.length cd1, .slice Ad2 d.pts.length cd2, .int .i64 d.t] 26)
      have hb := hb.trans (hal.mono hb.size)
      have Hd3 := Lib.hid (HC4.made hic 26)
      clear hic hal
      have HB3 := Lib.hid (HB2.out.trans (hb.mono HB2.out.size))
      have Hy3 := Lib.hid (Hy2.out.below hb)
      clear hb HB2 Hy2 y0 y1 y2 y3
      obtain ⟨y0, y1, y2, y3⟩ := Hy3.out.cells
      obtain ⟨d0, d1, d2, d3⟩ := Hd3.out.cells
      clear o0 o1 o2 o3 o4
      go_wp2_with fail
      go_at_call 16
      refine (HW.out _ _ Hy3.out.ic).mono ?_
      rintro e W4 ⟨rfl, hb⟩
      have HB4 := Lib.hid (HB3.out.trans (hb.mono HB3.out.size))
      have Hy4 := Lib.hid (Hy3.out.below hb)
      have Hd4 := Lib.hid (Hd3.out.below hb)
      clear hb HB3 Hy3 y0 y1 y2 y3 Hd3 d0 d1 d2 d3
      obtain ⟨y0, y1, y2, y3⟩ := Hy4.out.cells
      obtain ⟨d0, d1, d2, d3⟩ := Hd4.out.cells
      go_wp2_with fail
      go_at_call 16
      refine (HWd.out _ _ Hd4.out.ic).mono ?_
      rintro e W5 ⟨rfl, hb⟩
      have HB5 := Lib.hid (HB4.out.trans (hb.mono HB4.out.size))
      have Hy5 := Lib.hid (Hy4.out.below hb)
      have Hd5 := Lib.hid (Hd4.out.below hb)
      clear hb HB4 Hy4 y0 y1 y2 y3 Hd4 d0 d1 d2 d3
      obtain ⟨y0, y1, y2, y3⟩ := Hy5.out.cells
      obtain ⟨d0, d1, d2, d3⟩ := Hd5.out.cells
      have hor := HOR.out _ HB5.out
      have o0 := cell_of_row _ _ 0 _ _ _ hor
      have o1 := cell_of_row _ _ 1 _ _ _ hor
      have o2 := cell_of_row _ _ 2 _ _ _ hor
      have o3 := cell_of_row _ _ 3 _ _ _ hor
      have o4 := cell_of_row _ _ 4 _ _ _ hor
      clear hor
      go_wp2_with fail
      go_ret
      exact ⟨rfl, HW1.out.trans (HB5.out.mono HW1.out.size)⟩
    case neg =>
      rw [if_neg hin] at hkc
      simp only [Prod.mk.injEq] at hkc
      obtain ⟨rfl, rfl⟩ := hkc
      by_cases hf : f ≤ b
      case pos =>
        have d1 : decide (f ≤ b) = true := decide_eq_true hf
        have d2 : decide (b < t) = false := decide_eq_false (by omega)
        go_enter Try.func5, Try.ntmps5
        go_wp2_with fail
        go_at_call 8
        refine (shown_any _).mono ?_
        rintro e W1 ⟨rfl, hb⟩
        have HB1 := Lib.hid (HB0.out.trans (hb.mono HB0.out.size))
        clear hb HB0 
        go_wp2_with fail
        go_at_call 12
        refine (HAf.out _ HB1.out).mono ?_
        rintro e W2 ⟨vy, rfl, hic, hb⟩
        have hic2 := hic
        obtain ⟨svy, pvy, rfl, ⟨Ay1, cy1, rfl, -⟩, ⟨Ay2, cy2, rfl, -⟩⟩ := hic2
        have hal := (Below.refl W2.heap.size W2).alloc (Nat.le_refl _) (.cells #[.int .i64 c.e, .slice Ay1 c.srv.length cy1, .slice Ay2 c.pts.length cy2, .int .i64 c.t] 26)
        have hb := hb.trans (hal.mono hb.size)
        have Hy2 := Lib.hid (HC4.made hic 26)
        clear hic hal
        have HB2 := Lib.hid (HB1.out.trans (hb.mono HB1.out.size))
        clear hb HB1 
        obtain ⟨y0, y1, y2, y3⟩ := Hy2.out.cells
        have hor := HOR.out _ HB2.out
        have o0 := cell_of_row _ _ 0 _ _ _ hor
        have o1 := cell_of_row _ _ 1 _ _ _ hor
        have o2 := cell_of_row _ _ 2 _ _ _ hor
        have o3 := cell_of_row _ _ 3 _ _ _ hor
        have o4 := cell_of_row _ _ 4 _ _ _ hor
        clear hor
        go_wp2_with fail
        go_at_call 13
        refine (HAp.out _ _ Hy2.out.ic).mono ?_
        rintro e W3 ⟨vd, rfl, hic, hb, -⟩
        have hic2 := hic
        obtain ⟨svd, pvd, rfl, ⟨Ad1, cd1, rfl, -⟩, ⟨Ad2, cd2, rfl, -⟩⟩ := hic2
        have hal := (Below.refl W3.heap.size W3).alloc (Nat.le_refl _) (.cells #[.int .i64 d.e, .slice Ad1 d.srv.length cd1, .slice Ad2 d.pts.length cd2, .int .i64 d.t] 26)
        have hb := hb.trans (hal.mono hb.size)
        have Hd3 := Lib.hid (HC4.made hic 26)
        clear hic hal
        have HB3 := Lib.hid (HB2.out.trans (hb.mono HB2.out.size))
        have Hy3 := Lib.hid (Hy2.out.below hb)
        clear hb HB2 Hy2 y0 y1 y2 y3
        obtain ⟨y0, y1, y2, y3⟩ := Hy3.out.cells
        obtain ⟨d0, d1, d2, d3⟩ := Hd3.out.cells
        clear o0 o1 o2 o3 o4
        go_wp2_with fail
        go_at_call 16
        refine (HW.out _ _ Hy3.out.ic).mono ?_
        rintro e W4 ⟨rfl, hb⟩
        have HB4 := Lib.hid (HB3.out.trans (hb.mono HB3.out.size))
        have Hy4 := Lib.hid (Hy3.out.below hb)
        have Hd4 := Lib.hid (Hd3.out.below hb)
        clear hb HB3 Hy3 y0 y1 y2 y3 Hd3 d0 d1 d2 d3
        obtain ⟨y0, y1, y2, y3⟩ := Hy4.out.cells
        obtain ⟨d0, d1, d2, d3⟩ := Hd4.out.cells
        go_wp2_with fail
        go_at_call 16
        refine (HWd.out _ _ Hd4.out.ic).mono ?_
        rintro e W5 ⟨rfl, hb⟩
        have HB5 := Lib.hid (HB4.out.trans (hb.mono HB4.out.size))
        have Hy5 := Lib.hid (Hy4.out.below hb)
        have Hd5 := Lib.hid (Hd4.out.below hb)
        clear hb HB4 Hy4 y0 y1 y2 y3 Hd4 d0 d1 d2 d3
        obtain ⟨y0, y1, y2, y3⟩ := Hy5.out.cells
        obtain ⟨d0, d1, d2, d3⟩ := Hd5.out.cells
        have hor := HOR.out _ HB5.out
        have o0 := cell_of_row _ _ 0 _ _ _ hor
        have o1 := cell_of_row _ _ 1 _ _ _ hor
        have o2 := cell_of_row _ _ 2 _ _ _ hor
        have o3 := cell_of_row _ _ 3 _ _ _ hor
        have o4 := cell_of_row _ _ 4 _ _ _ hor
        clear hor
        go_wp2_with fail
        go_ret
        exact ⟨rfl, HW1.out.trans (HB5.out.mono HW1.out.size)⟩
      case neg =>
        have d1 : decide (f ≤ b) = false := decide_eq_false hf
        go_enter Try.func5, Try.ntmps5
        go_wp2_with fail
        go_at_call 8
        refine (shown_any _).mono ?_
        rintro e W1 ⟨rfl, hb⟩
        have HB1 := Lib.hid (HB0.out.trans (hb.mono HB0.out.size))
        clear hb HB0 
        go_wp2_with fail
        go_at_call 12
        refine (HAf.out _ HB1.out).mono ?_
        rintro e W2 ⟨vy, rfl, hic, hb⟩
        have hic2 := hic
        obtain ⟨svy, pvy, rfl, ⟨Ay1, cy1, rfl, -⟩, ⟨Ay2, cy2, rfl, -⟩⟩ := hic2
        have hal := (Below.refl W2.heap.size W2).alloc (Nat.le_refl _) (.cells #[.int .i64 c.e, .slice Ay1 c.srv.length cy1, .slice Ay2 c.pts.length cy2, .int .i64 c.t] 26)
        have hb := hb.trans (hal.mono hb.size)
        have Hy2 := Lib.hid (HC4.made hic 26)
        clear hic hal
        have HB2 := Lib.hid (HB1.out.trans (hb.mono HB1.out.size))
        clear hb HB1 
        obtain ⟨y0, y1, y2, y3⟩ := Hy2.out.cells
        have hor := HOR.out _ HB2.out
        have o0 := cell_of_row _ _ 0 _ _ _ hor
        have o1 := cell_of_row _ _ 1 _ _ _ hor
        have o2 := cell_of_row _ _ 2 _ _ _ hor
        have o3 := cell_of_row _ _ 3 _ _ _ hor
        have o4 := cell_of_row _ _ 4 _ _ _ hor
        clear hor
        go_wp2_with fail
        go_at_call 13
        refine (HAp.out _ _ Hy2.out.ic).mono ?_
        rintro e W3 ⟨vd, rfl, hic, hb, -⟩
        have hic2 := hic
        obtain ⟨svd, pvd, rfl, ⟨Ad1, cd1, rfl, -⟩, ⟨Ad2, cd2, rfl, -⟩⟩ := hic2
        have hal := (Below.refl W3.heap.size W3).alloc (Nat.le_refl _) (.cells #[.int .i64 d.e, .slice Ad1 d.srv.length cd1, .slice Ad2 d.pts.length cd2, .int .i64 d.t] 26)
        have hb := hb.trans (hal.mono hb.size)
        have Hd3 := Lib.hid (HC4.made hic 26)
        clear hic hal
        have HB3 := Lib.hid (HB2.out.trans (hb.mono HB2.out.size))
        have Hy3 := Lib.hid (Hy2.out.below hb)
        clear hb HB2 Hy2 y0 y1 y2 y3
        obtain ⟨y0, y1, y2, y3⟩ := Hy3.out.cells
        obtain ⟨d0, d1, d2, d3⟩ := Hd3.out.cells
        clear o0 o1 o2 o3 o4
        go_wp2_with fail
        go_at_call 16
        refine (HW.out _ _ Hy3.out.ic).mono ?_
        rintro e W4 ⟨rfl, hb⟩
        have HB4 := Lib.hid (HB3.out.trans (hb.mono HB3.out.size))
        have Hy4 := Lib.hid (Hy3.out.below hb)
        have Hd4 := Lib.hid (Hd3.out.below hb)
        clear hb HB3 Hy3 y0 y1 y2 y3 Hd3 d0 d1 d2 d3
        obtain ⟨y0, y1, y2, y3⟩ := Hy4.out.cells
        obtain ⟨d0, d1, d2, d3⟩ := Hd4.out.cells
        go_wp2_with fail
        go_at_call 16
        refine (HWd.out _ _ Hd4.out.ic).mono ?_
        rintro e W5 ⟨rfl, hb⟩
        have HB5 := Lib.hid (HB4.out.trans (hb.mono HB4.out.size))
        have Hy5 := Lib.hid (Hy4.out.below hb)
        have Hd5 := Lib.hid (Hd4.out.below hb)
        clear hb HB4 Hy4 y0 y1 y2 y3 Hd4 d0 d1 d2 d3
        obtain ⟨y0, y1, y2, y3⟩ := Hy5.out.cells
        obtain ⟨d0, d1, d2, d3⟩ := Hd5.out.cells
        have hor := HOR.out _ HB5.out
        have o0 := cell_of_row _ _ 0 _ _ _ hor
        have o1 := cell_of_row _ _ 1 _ _ _ hor
        have o2 := cell_of_row _ _ 2 _ _ _ hor
        have o3 := cell_of_row _ _ 3 _ _ _ hor
        have o4 := cell_of_row _ _ 4 _ _ _ hor
        clear hor
        go_wp2_with fail
        go_ret
        exact ⟨rfl, HW1.out.trans (HB5.out.mono HW1.out.size)⟩
  case neg =>
  rw [if_neg hk3] at hkc
  have k3 : (ok == 3) = false := by simpa using hk3
  clear hk3
  simp only [Prod.mk.injEq] at hkc
  obtain ⟨rfl, rfl⟩ := hkc
  go_enter Try.func5, Try.ntmps5
  go_wp2_with fail
  go_at_call 8
  refine (shown_any _).mono ?_
  rintro e W1 ⟨rfl, hb⟩
  have HB1 := Lib.hid (HB0.out.trans (hb.mono HB0.out.size))
  clear hb HB0 
  go_wp2_with fail
  go_at_call 12
  refine (HAf.out _ HB1.out).mono ?_
  rintro e W2 ⟨vy, rfl, hic, hb⟩
  have hic2 := hic
  obtain ⟨svy, pvy, rfl, ⟨Ay1, cy1, rfl, -⟩, ⟨Ay2, cy2, rfl, -⟩⟩ := hic2
  have hal := (Below.refl W2.heap.size W2).alloc (Nat.le_refl _) (.cells #[.int .i64 c.e, .slice Ay1 c.srv.length cy1, .slice Ay2 c.pts.length cy2, .int .i64 c.t] 26)
  have hb := hb.trans (hal.mono hb.size)
  have Hy2 := Lib.hid (HC4.made hic 26)
  clear hic hal
  have HB2 := Lib.hid (HB1.out.trans (hb.mono HB1.out.size))
  clear hb HB1 
  obtain ⟨y0, y1, y2, y3⟩ := Hy2.out.cells
  have hor := HOR.out _ HB2.out
  have o0 := cell_of_row _ _ 0 _ _ _ hor
  have o1 := cell_of_row _ _ 1 _ _ _ hor
  have o2 := cell_of_row _ _ 2 _ _ _ hor
  have o3 := cell_of_row _ _ 3 _ _ _ hor
  have o4 := cell_of_row _ _ 4 _ _ _ hor
  clear hor
  go_wp2_with fail
  go_at_call 13
  refine (HAp.out _ _ Hy2.out.ic).mono ?_
  rintro e W3 ⟨vd, rfl, hic, hb, -⟩
  have hic2 := hic
  obtain ⟨svd, pvd, rfl, ⟨Ad1, cd1, rfl, -⟩, ⟨Ad2, cd2, rfl, -⟩⟩ := hic2
  have hal := (Below.refl W3.heap.size W3).alloc (Nat.le_refl _) (.cells #[.int .i64 d.e, .slice Ad1 d.srv.length cd1, .slice Ad2 d.pts.length cd2, .int .i64 d.t] 26)
  have hb := hb.trans (hal.mono hb.size)
  have Hd3 := Lib.hid (HC4.made hic 26)
  clear hic hal
  have HB3 := Lib.hid (HB2.out.trans (hb.mono HB2.out.size))
  have Hy3 := Lib.hid (Hy2.out.below hb)
  clear hb HB2 Hy2 y0 y1 y2 y3
  obtain ⟨y0, y1, y2, y3⟩ := Hy3.out.cells
  obtain ⟨d0, d1, d2, d3⟩ := Hd3.out.cells
  clear o0 o1 o2 o3 o4
  go_wp2_with fail
  go_at_call 16
  refine (HW.out _ _ Hy3.out.ic).mono ?_
  rintro e W4 ⟨rfl, hb⟩
  have HB4 := Lib.hid (HB3.out.trans (hb.mono HB3.out.size))
  have Hy4 := Lib.hid (Hy3.out.below hb)
  have Hd4 := Lib.hid (Hd3.out.below hb)
  clear hb HB3 Hy3 y0 y1 y2 y3 Hd3 d0 d1 d2 d3
  obtain ⟨y0, y1, y2, y3⟩ := Hy4.out.cells
  obtain ⟨d0, d1, d2, d3⟩ := Hd4.out.cells
  go_wp2_with fail
  go_at_call 16
  refine (HWd.out _ _ Hd4.out.ic).mono ?_
  rintro e W5 ⟨rfl, hb⟩
  have HB5 := Lib.hid (HB4.out.trans (hb.mono HB4.out.size))
  have Hy5 := Lib.hid (Hy4.out.below hb)
  have Hd5 := Lib.hid (Hd4.out.below hb)
  clear hb HB4 Hy4 y0 y1 y2 y3 Hd4 d0 d1 d2 d3
  obtain ⟨y0, y1, y2, y3⟩ := Hy5.out.cells
  obtain ⟨d0, d1, d2, d3⟩ := Hd5.out.cells
  have hor := HOR.out _ HB5.out
  have o0 := cell_of_row _ _ 0 _ _ _ hor
  have o1 := cell_of_row _ _ 1 _ _ _ hor
  have o2 := cell_of_row _ _ 2 _ _ _ hor
  have o3 := cell_of_row _ _ 3 _ _ _ hor
  have o4 := cell_of_row _ _ 4 _ _ _ hor
  clear hor
  go_wp2_with fail
  go_ret
  exact ⟨rfl, HW1.out.trans (HB5.out.mono HW1.out.size)⟩
end Go.Proofs.Ythjinpbclfankaa
