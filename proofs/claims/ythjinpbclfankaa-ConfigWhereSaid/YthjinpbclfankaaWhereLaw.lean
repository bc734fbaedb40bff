/-
  ConfigWhere: the law answers true, whatever its arguments.
-/
import Derived.Test.YthjinpbclfankaaHc4
import Derived.Laws.EntriesVeiled
namespace Go.Proofs.Ythjinpbclfankaa
open Go.RowKit

set_option maxRecDepth 100000 in
set_option maxHeartbeats 4000000 in
theorem whereLaw_any {w : World} {v : Value} {l : List Od} (hO : InO w v l) (hl : l.length ≤ 9223372036854775807) (b : Int) :
    Calls Try.prog 4 #[v, .int .i64 b] w fun e w' => e = .returned (.bool true) ∧ Below w.heap.size w w' := by
  have HB0 := Lib.hid (Below.refl w.heap.size w)
  have HAf := Lib.hid (fun (W : World) (hW : Below w.heap.size w W) => after_any (hO.below hW) hl)
  have hok := (aft_ok l).1
  have hfew := hok.few
  have hae := (aft_ok l).2
  have hS : ∃ A cap, v = .slice A l.length cap := by (obtain ⟨A, cap, e, -⟩ := hO; exact ⟨A, cap, e⟩)
  clear hO
  generalize aft l = c at HAf hok hfew hae
  obtain ⟨A, cap, rfl⟩ := hS
  have htt := tab_ok hok b
  have HT := Lib.hid (fun (W : World) (u : Value) (h : IC W u c) => table_any h b)
  have HRT := Lib.hid (fun (W : World) (u : Value) (h : IC W u c) => rtable_any h b)
  generalize tab c.t b = tt at htt HT HRT
  by_cases hb0 : 0 ≤ b ∧ b < 256
  · obtain ⟨x, hx, hx1, hx2, hx3⟩ := whr_some hok.2.2.2 hb0.1 hb0.2
    have hwe := whrE_some hx
    obtain ⟨xa, xb⟩ := x
    have HW := Lib.hid (fun (W : World) (u : Value) (h : IC W u c) => show Calls Try.prog 16 #[u, .int .i64 b] W fun e w' => e = .returned (.tuple #[.int .i64 xa, .int .i64 xb, .int .i64 0]) ∧ Below W.heap.size W w' by (have := where_any h hok (by omega) b; rw [hwe] at this; exact this))
    have HRW := Lib.hid (fun (W : World) (u : Value) (h : IC W u c) => show Calls Try.prog 17 #[u, .int .i64 b] W fun e w' => e = .returned (.tuple #[.int .i64 xa, .int .i64 xb, .int .i64 0]) ∧ Below W.heap.size W w' by (have := rwhere_any h (by omega) b; rw [hwe] at this; exact this))
    have e1 : (xa != xb) = true := by simpa using hx3
    have e2 : decide (xa ∈ c.srv) = true := decide_eq_true hx1
    have e3 : decide (xb ∈ c.srv) = true := decide_eq_true hx2
    have e4 : decide (0 ≤ tt) = true := decide_eq_true htt.1
    have e5 : decide (tt < c.t) = true := decide_eq_true htt.2
    clear hx hwe
    go_enter Try.func4, Try.ntmps4
    go_wp2_with fail
    go_at_call 8
    refine (shown_any _).mono ?_
    rintro e W1 ⟨rfl, hb⟩
    have HB1 := Lib.hid (HB0.out.trans (hb.mono HB0.out.size))
    clear hb HB0 
    go_wp2_with fail
    go_at_call 12
    refine (HAf.out _ HB1.out).mono ?_
    rintro e W2 ⟨vy, rfl, hic, hb⟩
    have hic2 := hic
    obtain ⟨svy, pvy, rfl, ⟨Ay1, cy1, rfl, -⟩, ⟨Ay2, cy2, rfl, -⟩⟩ := hic2
    have hal := (Below.refl W2.heap.size W2).alloc (Nat.le_refl _) (.cells #[.int .i64 c.e, .slice Ay1 c.srv.length cy1, .slice Ay2 c.pts.length cy2, .int .i64 c.t] 26)
    have hb := hb.trans (hal.mono hb.size)
    have Hy2 := Lib.hid (HC4.made hic 26)
    clear hic hal
    have HB2 := Lib.hid (HB1.out.trans (hb.mono HB1.out.size))
    clear hb HB1 
    obtain ⟨y0, y1, y2, y3⟩ := Hy2.out.cells
    go_wp2_with fail
    go_at_call 16
    refine (HW.out _ _ Hy2.out.ic).mono ?_
    rintro e W3 ⟨rfl, hb⟩
    have HB3 := Lib.hid (HB2.out.trans (hb.mono HB2.out.size))
    have Hy3 := Lib.hid (Hy2.out.below hb)
    clear hb HB2 Hy2 y0 y1 y2 y3
    obtain ⟨y0, y1, y2, y3⟩ := Hy3.out.cells
    go_wp2_with fail
    go_at_call 11
    refine (theirs_any Hy3.out.ic (by omega)).mono ?_
    rintro e W4 ⟨v5, rfl, hic5, hb⟩
    have HB4 := Lib.hid (HB3.out.trans (hb.mono HB3.out.size))
    have Hy4 := Lib.hid (Hy3.out.below hb)
    clear hb HB3 Hy3 y0 y1 y2 y3
    obtain ⟨y0, y1, y2, y3⟩ := Hy4.out.cells
    go_wp2_with fail
    go_at_call 17
    refine (HRW.out _ _ hic5).mono ?_
    rintro e W5 ⟨rfl, hb⟩
    have HB5 := Lib.hid (HB4.out.trans (hb.mono HB4.out.size))
    have Hy5 := Lib.hid (Hy4.out.below hb)
    clear hb HB4 Hy4 y0 y1 y2 y3
    obtain ⟨y0, y1, y2, y3⟩ := Hy5.out.cells
    go_wp2_with fail
    go_at_call 18
    refine (HT.out _ _ Hy5.out.ic).mono ?_
    rintro e W6 ⟨rfl, hb⟩
    have HB6 := Lib.hid (HB5.out.trans (hb.mono HB5.out.size))
    have Hy6 := Lib.hid (Hy5.out.below hb)
    clear hb HB5 Hy5 y0 y1 y2 y3
    obtain ⟨y0, y1, y2, y3⟩ := Hy6.out.cells
    go_wp2_with fail
    go_at_call 11
    refine (theirs_any Hy6.out.ic (by omega)).mono ?_
    rintro e W7 ⟨v7, rfl, hic7, hb⟩
    have HB7 := Lib.hid (HB6.out.trans (hb.mono HB6.out.size))
    have Hy7 := Lib.hid (Hy6.out.below hb)
    clear hb HB6 Hy6 y0 y1 y2 y3
    obtain ⟨y0, y1, y2, y3⟩ := Hy7.out.cells
    go_wp2_with fail
    go_at_call 19
    refine (HRT.out _ _ hic7).mono ?_
    rintro e W8 ⟨rfl, hb⟩
    have HB8 := Lib.hid (HB7.out.trans (hb.mono HB7.out.size))
    have Hy8 := Lib.hid (Hy7.out.below hb)
    clear hb HB7 Hy7 y0 y1 y2 y3
    obtain ⟨y0, y1, y2, y3⟩ := Hy8.out.cells
    have HH := Lib.hid (fun x : Int => has_any Hy8.out.srv x (by omega))
    go_wp2_with (first | (go_at_call 20; (with_reducible refine (HH.out _).mono ?_); rintro e w' ⟨rfl, rfl⟩; first | rw [e2] | rw [e3]) | fail)
    go_ret
    exact ⟨rfl, HB8.out⟩
  · have hwe := whrE_none (whr_none hok.2.2.2 (k := b) (by omega))
    have HW := Lib.hid (fun (W : World) (u : Value) (h : IC W u c) => show Calls Try.prog 16 #[u, .int .i64 b] W fun e w' => e = .returned (.tuple #[.int .i64 0, .int .i64 0, .int .i64 71]) ∧ Below W.heap.size W w' by (have := where_any h hok (by omega) b; rw [hwe] at this; exact this))
    have HRW := Lib.hid (fun (W : World) (u : Value) (h : IC W u c) => show Calls Try.prog 17 #[u, .int .i64 b] W fun e w' => e = .returned (.tuple #[.int .i64 0, .int .i64 0, .int .i64 71]) ∧ Below W.heap.size W w' by (have := rwhere_any h (by omega) b; rw [hwe] at this; exact this))
    clear hwe
    go_enter Try.func4, Try.ntmps4
    go_wp2_with fail
    go_at_call 8
    refine (shown_any _).mono ?_
    rintro e W1 ⟨rfl, hb⟩
    have HB1 := Lib.hid (HB0.out.trans (hb.mono HB0.out.size))
    clear hb HB0 
    go_wp2_with fail
    go_at_call 12
    refine (HAf.out _ HB1.out).mono ?_
    rintro e W2 ⟨vy, rfl, hic, hb⟩
    have hic2 := hic
    obtain ⟨svy, pvy, rfl, ⟨Ay1, cy1, rfl, -⟩, ⟨Ay2, cy2, rfl, -⟩⟩ := hic2
    have hal := (Below.refl W2.heap.size W2).alloc (Nat.le_refl _) (.cells #[.int .i64 c.e, .slice Ay1 c.srv.length cy1, .slice Ay2 c.pts.length cy2, .int .i64 c.t] 26)
    have hb := hb.trans (hal.mono hb.size)
    have Hy2 := Lib.hid (HC4.made hic 26)
    clear hic hal
    have HB2 := Lib.hid (HB1.out.trans (hb.mono HB1.out.size))
    clear hb HB1 
    obtain ⟨y0, y1, y2, y3⟩ := Hy2.out.cells
    go_wp2_with fail
    go_at_call 16
    refine (HW.out _ _ Hy2.out.ic).mono ?_
    rintro e W3 ⟨rfl, hb⟩
    have HB3 := Lib.hid (HB2.out.trans (hb.mono HB2.out.size))
    have Hy3 := Lib.hid (Hy2.out.below hb)
    clear hb HB2 Hy2 y0 y1 y2 y3
    obtain ⟨y0, y1, y2, y3⟩ := Hy3.out.cells
    go_wp2_with fail
    go_at_call 11
    refine (theirs_any Hy3.out.ic (by omega)).mono ?_
    rintro e W4 ⟨v5, rfl, hic5, hb⟩
    have HB4 := Lib.hid (HB3.out.trans (hb.mono HB3.out.size))
    have Hy4 := Lib.hid (Hy3.out.below hb)
    clear hb HB3 Hy3 y0 y1 y2 y3
    obtain ⟨y0, y1, y2, y3⟩ := Hy4.out.cells
    go_wp2_with fail
    go_at_call 17
    refine (HRW.out _ _ hic5).mono ?_
    rintro e W5 ⟨rfl, hb⟩
    have HB5 := Lib.hid (HB4.out.trans (hb.mono HB4.out.size))
    have Hy5 := Lib.hid (Hy4.out.below hb)
    clear hb HB4 Hy4 y0 y1 y2 y3
    obtain ⟨y0, y1, y2, y3⟩ := Hy5.out.cells
    go_wp2_with fail
    go_at_call 18
    refine (HT.out _ _ Hy5.out.ic).mono ?_
    rintro e W6 ⟨rfl, hb⟩
    have HB6 := Lib.hid (HB5.out.trans (hb.mono HB5.out.size))
    have Hy6 := Lib.hid (Hy5.out.below hb)
    clear hb HB5 Hy5 y0 y1 y2 y3
    obtain ⟨y0, y1, y2, y3⟩ := Hy6.out.cells
    go_wp2_with fail
    go_at_call 11
    refine (theirs_any Hy6.out.ic (by omega)).mono ?_
    rintro e W7 ⟨v7, rfl, hic7, hb⟩
    have HB7 := Lib.hid (HB6.out.trans (hb.mono HB6.out.size))
    have Hy7 := Lib.hid (Hy6.out.below hb)
    clear hb HB6 Hy6 y0 y1 y2 y3
    obtain ⟨y0, y1, y2, y3⟩ := Hy7.out.cells
    go_wp2_with fail
    go_at_call 19
    refine (HRT.out _ _ hic7).mono ?_
    rintro e W8 ⟨rfl, hb⟩
    have HB8 := Lib.hid (HB7.out.trans (hb.mono HB7.out.size))
    have Hy8 := Lib.hid (Hy7.out.below hb)
    clear hb HB7 Hy7 y0 y1 y2 y3
    obtain ⟨y0, y1, y2, y3⟩ := Hy8.out.cells
    by_cases hb1 : b < 0
    · have d1 : decide (b < 0) = true := decide_eq_true hb1
      go_wp2_with fail
      go_ret
      exact ⟨rfl, HB8.out⟩
    · have d1 : decide (b < 0) = false := decide_eq_false hb1
      have d2 : decide (256 ≤ b) = true := decide_eq_true (by omega)
      go_wp2_with fail
      go_ret
      exact ⟨rfl, HB8.out⟩
end Go.Proofs.Ythjinpbclfankaa
