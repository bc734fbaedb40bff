/-
  ConfigTables: the law answers true, whatever its arguments.
-/
import Derived.Test.YthjinpbclfankaaHc4
import Derived.Laws.EntriesVeiled
import Derived.StillTailTactics
namespace Go.Proofs.Ythjinpbclfankaa
open Go.RowKit

theorem apl4_yes {c : Cf} (h : c.ok) (he : c.e ≤ 61) {n : Int} (hn : 1 ≤ n ∧ n ≤ 8) : apl c ⟨4, n, 0, 0, 0⟩ = ({ c with e := c.e + 1, t := n }, 0) := by
  have hch : change c ⟨4, n, 0, 0, 0⟩ = (0, { c with t := n }) := by
    unfold change
    rw [if_neg (by show ¬ (4 : Int) = 1; omega), if_neg (by show ¬ (4 : Int) = 2; omega), if_neg (by show ¬ (4 : Int) = 3; omega), if_pos rfl, if_pos hn]
  unfold apl
  rw [if_pos h, if_neg (by omega), hch, if_pos rfl]
theorem apl4_no {c : Cf} (h : c.ok) (he : c.e ≤ 61) {n : Int} (hn : ¬ (1 ≤ n ∧ n ≤ 8)) : apl c ⟨4, n, 0, 0, 0⟩ = (cfz, 1) := by
  have hch : change c ⟨4, n, 0, 0, 0⟩ = (1, c) := by
    unfold change
    rw [if_neg (by show ¬ (4 : Int) = 1; omega), if_neg (by show ¬ (4 : Int) = 2; omega), if_neg (by show ¬ (4 : Int) = 3; omega), if_pos rfl, if_neg hn]
  unfold apl
  rw [if_pos h, if_neg (by omega), hch, if_neg (show ¬ (1 : Int) = 0 by decide)]
theorem tab_mod {n : Int} (hn : 1 ≤ n) {m : Nat} : tab n m = (m : Int) % n := by
  unfold tab
  by_cases h : n < 1 ∨ (m : Int) < 1
  · rw [if_pos h, show (m : Int) = 0 by omega]; simp
  · rw [if_neg h]
set_option maxRecDepth 100000 in
set_option maxHeartbeats 4000000 in
theorem tablesLaw_any {w : World} {v : Value} {l : List Od} (hO : InO w v l) (hl : l.length ≤ 9223372036854775807) (n : Int) {m1 m2 : Nat} (hm1 : m1 < 256) (hm2 : m2 < 256) :
    Calls Try.prog 7 #[v, .int .i64 n, .int .u8 m1, .int .u8 m2] w fun e w' => e = .returned (.bool true) ∧ Below w.heap.size w w' := by
  have HB0 := Lib.hid (Below.refl w.heap.size w)
  have HAf := Lib.hid (fun (W : World) (hW : Below w.heap.size w W) => after_any (hO.below hW) hl)
  have hok := (aft_ok l).1
  have hfew := hok.few
  have hae := (aft_ok l).2
  have hS : ∃ A cap, v = .slice A l.length cap := by (obtain ⟨A, cap, e, -⟩ := hO; exact ⟨A, cap, e⟩)
  clear hO
  generalize aft l = c at HAf hok hfew hae
  obtain ⟨A, cap, rfl⟩ := hS
  have hw1 : IntKind.i64.wrap (m1 : Int) = m1 := IntWalk.i64_in _ (by omega)
  have hw2 : IntKind.i64.wrap (m2 : Int) = m2 := IntWalk.i64_in _ (by omega)
  by_cases hn : 1 ≤ n ∧ n ≤ 8
  · have hap := apl4_yes hok hae.2 hn
    have d1 : decide (1 ≤ n) = true := decide_eq_true hn.1
    have d2 : decide (n ≤ 8) = true := decide_eq_true hn.2
    have HAp := Lib.hid (fun (W : World) (u : Value) (h : IC W u c) => show Calls Try.prog 13 #[u, .agg #[.int .i64 4, .int .i64 n, .int .i64 0, .int .i64 0, .int .i64 0]] W fun e w' => ∃ v', e = .returned (.tuple #[v', .int .i64 0]) ∧ IC w' v' { c with e := c.e + 1, t := n } ∧ Below W.heap.size W w' ∧ OffK W u v' by (have := apply_any h (by omega) (by omega) ⟨4, n, 0, 0, 0⟩; rw [hap] at this; exact this))
    obtain ⟨x, hx, -⟩ := whr_some hok.2.2.2 (k := (m1 : Int)) (by omega) (by omega)
    have hwe := whrE_some hx
    obtain ⟨xa, xb⟩ := x
    have HW := Lib.hid (fun (W : World) (u : Value) (h : IC W u c) => show Calls Try.prog 16 #[u, .int .i64 (m1 : Int)] W fun e w' => e = .returned (.tuple #[.int .i64 xa, .int .i64 xb, .int .i64 0]) ∧ Below W.heap.size W w' by (have := where_any h hok (by omega) m1; rw [hwe] at this; exact this))
    have hokd : (({ c with e := c.e + 1, t := n } : Cf)).ok := ⟨⟨by show 1 ≤ c.e + 1; omega, by show c.e + 1 ≤ 1099511627776; omega, hn.1, hn.2⟩, hok.2⟩
    generalize hd : ({ c with e := c.e + 1, t := n } : Cf) = d at HAp hokd
    have hdt : d.t = n := by rw [← hd]
    have hdp : d.pts = c.pts := by rw [← hd]
    have HWd := Lib.hid (fun (W : World) (u : Value) (h : IC W u d) => show Calls Try.prog 16 #[u, .int .i64 (m1 : Int)] W fun e w' => e = .returned (.tuple #[.int .i64 xa, .int .i64 xb, .int .i64 0]) ∧ Below W.heap.size W w' by (have := where_any h hokd (by rw [hdp]; omega) m1; rw [hdp, hwe] at this; exact this))
    have HT1 := Lib.hid (fun (W : World) (u : Value) (h : IC W u d) => show Calls Try.prog 18 #[u, .int .i64 (m1 : Int)] W fun e w' => e = .returned (.int .i64 ((m1 : Int) % n)) ∧ Below W.heap.size W w' by (have := table_any h m1; rw [hdt, tab_mod hn.1] at this; exact this))
    have HT2 := Lib.hid (fun (W : World) (u : Value) (h : IC W u d) => show Calls Try.prog 18 #[u, .int .i64 (m2 : Int)] W fun e w' => e = .returned (.int .i64 ((m2 : Int) % n)) ∧ Below W.heap.size W w' by (have := table_any h m2; rw [hdt, tab_mod hn.1] at this; exact this))
    have HT4 := Lib.hid (fun (W : World) (u : Value) (h : IC W u d) => show Calls Try.prog 18 #[u, .int .i64 (-4)] W fun e w' => e = .returned (.int .i64 0) ∧ Below W.heap.size W w' by (have := table_any h (-4); rw [show tab d.t (-4) = 0 from by unfold tab; rw [if_pos (.inr (by omega))]] at this; exact this))
    have HDT := Lib.hid hdt
    clear hx hwe hd hap hdt hdp
    go_enter Try.func7, Try.ntmps7
    go_wp2_with fail
    go_at_call 8
    refine (shown_any _).mono ?_
    rintro e W1 ⟨rfl, hb⟩
    have HB1 := Lib.hid (HB0.out.trans (hb.mono HB0.out.size))
    clear hb HB0 
    go_wp2_with fail
    go_at_call 12
    refine (HAf.out _ HB1.out).mono ?_
    rintro e W2 ⟨vy, rfl, hic, hb⟩
    have hic2 := hic
    obtain ⟨svy, pvy, rfl, ⟨Ay1, cy1, rfl, -⟩, ⟨Ay2, cy2, rfl, -⟩⟩ := hic2
    have hal := (Below.refl W2.heap.size W2).alloc (Nat.le_refl _) (.cells #[.int .i64 c.e, .slice Ay1 c.srv.length cy1, .slice Ay2 c.pts.length cy2, .int .i64 c.t] 26)
    have hb := hb.trans (hal.mono hb.size)
    have Hy2 := Lib.hid (HC4.made hic 26)
    clear hic hal
    have HB2 := Lib.hid (HB1.out.trans (hb.mono HB1.out.size))
    clear hb HB1 
    obtain ⟨y0, y1, y2, y3⟩ := Hy2.out.cells
    go_wp2_with fail
    go_at_call 13
    refine (HAp.out _ _ Hy2.out.ic).mono ?_
    rintro e W3 ⟨vd, rfl, hic, hb, -⟩
    have hic2 := hic
    obtain ⟨svd, pvd, rfl, ⟨Ad1, cd1, rfl, -⟩, ⟨Ad2, cd2, rfl, -⟩⟩ := hic2
    have hal := (Below.refl W3.heap.size W3).alloc (Nat.le_refl _) (.cells #[.int .i64 d.e, .slice Ad1 d.srv.length cd1, .slice Ad2 d.pts.length cd2, .int .i64 d.t] 26)
    have hb := hb.trans (hal.mono hb.size)
    have Hd3 := Lib.hid (HC4.made hic 26)
    clear hic hal
    have HB3 := Lib.hid (HB2.out.trans (hb.mono HB2.out.size))
    have Hy3 := Lib.hid (Hy2.out.below hb)
    clear hb HB2 Hy2 y0 y1 y2 y3
    obtain ⟨y0, y1, y2, y3⟩ := Hy3.out.cells
    obtain ⟨d0, d1, d2, d3⟩ := Hd3.out.cells
    go_wp2_with fail
    go_at_call 18
    refine (HT1.out _ _ Hd3.out.ic).mono ?_
    rintro e W4 ⟨rfl, hb⟩
    have HB4 := Lib.hid (HB3.out.trans (hb.mono HB3.out.size))
    have Hy4 := Lib.hid (Hy3.out.below hb)
    have Hd4 := Lib.hid (Hd3.out.below hb)
    clear hb HB3 Hy3 y0 y1 y2 y3 Hd3 d0 d1 d2 d3
    obtain ⟨y0, y1, y2, y3⟩ := Hy4.out.cells
    obtain ⟨d0, d1, d2, d3⟩ := Hd4.out.cells
    go_wp2_with fail
    go_at_call 18
    refine (HT2.out _ _ Hd4.out.ic).mono ?_
    rintro e W5 ⟨rfl, hb⟩
    have HB5 := Lib.hid (HB4.out.trans (hb.mono HB4.out.size))
    have Hy5 := Lib.hid (Hy4.out.below hb)
    have Hd5 := Lib.hid (Hd4.out.below hb)
    clear hb HB4 Hy4 y0 y1 y2 y3 Hd4 d0 d1 d2 d3
    obtain ⟨y0, y1, y2, y3⟩ := Hy5.out.cells
    obtain ⟨d0, d1, d2, d3⟩ := Hd5.out.cells
    go_wp2_with fail
    go_at_call 16
    refine (HW.out _ _ Hy5.out.ic).mono ?_
    rintro e W6 ⟨rfl, hb⟩
    have HB6 := Lib.hid (HB5.out.trans (hb.mono HB5.out.size))
    have Hy6 := Lib.hid (Hy5.out.below hb)
    have Hd6 := Lib.hid (Hd5.out.below hb)
    clear hb HB5 Hy5 y0 y1 y2 y3 Hd5 d0 d1 d2 d3
    obtain ⟨y0, y1, y2, y3⟩ := Hy6.out.cells
    obtain ⟨d0, d1, d2, d3⟩ := Hd6.out.cells
    go_wp2_with fail
    go_at_call 16
    refine (HWd.out _ _ Hd6.out.ic).mono ?_
    rintro e W7 ⟨rfl, hb⟩
    have HB7 := Lib.hid (HB6.out.trans (hb.mono HB6.out.size))
    have Hy7 := Lib.hid (Hy6.out.below hb)
    have Hd7 := Lib.hid (Hd6.out.below hb)
    clear hb HB6 Hy6 y0 y1 y2 y3 Hd6 d0 d1 d2 d3
    obtain ⟨y0, y1, y2, y3⟩ := Hy7.out.cells
    obtain ⟨d0, d1, d2, d3⟩ := Hd7.out.cells
    have hn0 : ¬ n = 0 := by omega
    have a0 := Int.emod_nonneg (m1 : Int) hn0
    have a1 := Int.emod_lt_of_pos (m1 : Int) (show 0 < n by omega)
    have e1 : decide (0 ≤ (m1 : Int) % n) = true := decide_eq_true a0
    have e2 : decide ((m1 : Int) % n < n) = true := decide_eq_true a1
    have e3 : (d.t == n) = true := by simpa using HDT.out
    have HDD := Lib.hid (fun (W : World) (hb : Below W7.heap.size W7 W) => Hd7.out.below hb)
    have q1 : (m1 : Int).tmod n = (m1 : Int) % n := Int.tmod_eq_emod_of_nonneg (by omega)
    have q2 : (m2 : Int).tmod n = (m2 : Int) % n := Int.tmod_eq_emod_of_nonneg (by omega)
    have q3 : IntKind.i64.wrap ((m1 : Int) % n) = (m1 : Int) % n := IntWalk.i64_in _ (by have := Int.emod_nonneg (m2 : Int) hn0; omega)
    have q4 : IntKind.i64.wrap ((m2 : Int) % n) = (m2 : Int) % n := IntWalk.i64_in _ (by have := Int.emod_nonneg (m2 : Int) hn0; have := Int.emod_lt_of_pos (m2 : Int) (show 0 < n by omega); omega)
    go_wp2_with fail
    go_still_tail 48, (by kernel_rfl)
    change wpList _ _ _ _ _ W7.drew
    have g0 := (Hd7.out.below (Below.drew (Below.refl _ _)))
    obtain ⟨d0, d1', d2', d3⟩ := g0.cells
    go_wp2_with fail
    go_at_call 18
    refine (HT4.out _ _ g0.ic).mono ?_
    rintro e W8 ⟨rfl, hb⟩
    have HBf := Lib.hid (HB7.out.trans (((Below.drew (Below.refl _ _)).trans hb).mono HB7.out.size))
    clear hb g0
    go_wp2_with fail
    go_ret
    exact ⟨rfl, HBf.out⟩
  · have hap := apl4_no hok hae.2 hn
    have HAp := Lib.hid (fun (W : World) (u : Value) (h : IC W u c) => show Calls Try.prog 13 #[u, .agg #[.int .i64 4, .int .i64 n, .int .i64 0, .int .i64 0, .int .i64 0]] W fun e w' => ∃ v', e = .returned (.tuple #[v', .int .i64 1]) ∧ IC w' v' cfz ∧ Below W.heap.size W w' ∧ OffK W u v' by (have := apply_any h (by omega) (by omega) ⟨4, n, 0, 0, 0⟩; rw [hap] at this; exact this))
    clear hap
    by_cases hn1 : 1 ≤ n
    · have d1 : decide (1 ≤ n) = true := decide_eq_true hn1
      have d2 : decide (n ≤ 8) = false := decide_eq_false (by omega)
      go_enter Try.func7, Try.ntmps7
      go_wp2_with fail
      go_at_call 8
      refine (shown_any _).mono ?_
      rintro e W1 ⟨rfl, hb⟩
      have HB1 := Lib.hid (HB0.out.trans (hb.mono HB0.out.size))
      clear hb HB0 
      go_wp2_with fail
      go_at_call 12
      refine (HAf.out _ HB1.out).mono ?_
      rintro e W2 ⟨vy, rfl, hic, hb⟩
      have hic2 := hic
      obtain ⟨svy, pvy, rfl, ⟨Ay1, cy1, rfl, -⟩, ⟨Ay2, cy2, rfl, -⟩⟩ := hic2
      have hal := (Below.refl W2.heap.size W2).alloc (Nat.le_refl _) (.cells #[.int .i64 c.e, .slice Ay1 c.srv.length cy1, .slice Ay2 c.pts.length cy2, .int .i64 c.t] 26)
      have hb := hb.trans (hal.mono hb.size)
      have Hy2 := Lib.hid (HC4.made hic 26)
      clear hic hal
      have HB2 := Lib.hid (HB1.out.trans (hb.mono HB1.out.size))
      clear hb HB1 
      obtain ⟨y0, y1, y2, y3⟩ := Hy2.out.cells
      go_wp2_with fail
      go_at_call 13
      refine (HAp.out _ _ Hy2.out.ic).mono ?_
      rintro e W3 ⟨vd, rfl, hic, hb, -⟩
      have hic2 := hic
      obtain ⟨svd, pvd, rfl, ⟨Ad1, cd1, rfl, -⟩, ⟨Ad2, cd2, rfl, -⟩⟩ := hic2
      have hal := (Below.refl W3.heap.size W3).alloc (Nat.le_refl _) (.cells #[.int .i64 cfz.e, .slice Ad1 cfz.srv.length cd1, .slice Ad2 cfz.pts.length cd2, .int .i64 cfz.t] 26)
      have hb := hb.trans (hal.mono hb.size)
      have Hd3 := Lib.hid (HC4.made hic 26)
      clear hic hal
      have HB3 := Lib.hid (HB2.out.trans (hb.mono HB2.out.size))
      have Hy3 := Lib.hid (Hy2.out.below hb)
      clear hb HB2 Hy2 y0 y1 y2 y3
      obtain ⟨y0, y1, y2, y3⟩ := Hy3.out.cells
      obtain ⟨d0, d1, d2, d3⟩ := Hd3.out.cells
      go_wp2_with fail
      go_ret
      exact ⟨rfl, HB3.out⟩
    · have d1 : decide (1 ≤ n) = false := decide_eq_false hn1
      go_enter Try.func7, Try.ntmps7
      go_wp2_with fail
      go_at_call 8
      refine (shown_any _).mono ?_
      rintro e W1 ⟨rfl, hb⟩
      have HB1 := Lib.hid (HB0.out.trans (hb.mono HB0.out.size))
      clear hb HB0 
      go_wp2_with fail
      go_at_call 12
      refine (HAf.out _ HB1.out).mono ?_
      rintro e W2 ⟨vy, rfl, hic, hb⟩
      have hic2 := hic
      obtain ⟨svy, pvy, rfl, ⟨Ay1, cy1, rfl, -⟩, ⟨Ay2, cy2, rfl, -⟩⟩ := hic2
      have hal := (Below.refl W2.heap.size W2).alloc (Nat.le_refl _) (.cells #[.int .i64 c.e, .slice Ay1 c.srv.length cy1, .slice Ay2 c.pts.length cy2, .int .i64 c.t] 26)
      have hb := hb.trans (hal.mono hb.size)
      have Hy2 := Lib.hid (HC4.made hic 26)
      clear hic hal
      have HB2 := Lib.hid (HB1.out.trans (hb.mono HB1.out.size))
      clear hb HB1 
      obtain ⟨y0, y1, y2, y3⟩ := Hy2.out.cells
      go_wp2_with fail
      go_at_call 13
      refine (HAp.out _ _ Hy2.out.ic).mono ?_
      rintro e W3 ⟨vd, rfl, hic, hb, -⟩
      have hic2 := hic
      obtain ⟨svd, pvd, rfl, ⟨Ad1, cd1, rfl, -⟩, ⟨Ad2, cd2, rfl, -⟩⟩ := hic2
      have hal := (Below.refl W3.heap.size W3).alloc (Nat.le_refl _) (.cells #[.int .i64 cfz.e, .slice Ad1 cfz.srv.length cd1, .slice Ad2 cfz.pts.length cd2, .int .i64 cfz.t] 26)
      have hb := hb.trans (hal.mono hb.size)
      have Hd3 := Lib.hid (HC4.made hic 26)
      clear hic hal
      have HB3 := Lib.hid (HB2.out.trans (hb.mono HB2.out.size))
      have Hy3 := Lib.hid (Hy2.out.below hb)
      clear hb HB2 Hy2 y0 y1 y2 y3
      obtain ⟨y0, y1, y2, y3⟩ := Hy3.out.cells
      obtain ⟨d0, d1, d2, d3⟩ := Hd3.out.cells
      go_wp2_with fail
      go_ret
      exact ⟨rfl, HB3.out⟩
end Go.Proofs.Ythjinpbclfankaa
