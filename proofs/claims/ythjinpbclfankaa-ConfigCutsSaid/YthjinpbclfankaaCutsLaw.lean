/-
  ConfigCuts: the law answers true, whatever its arguments.
-/
import Derived.Test.YthjinpbclfankaaHc4
import Derived.Laws.EntriesVeiled
import Derived.StillTailTactics
import Derived.BigQuiet
import Derived.Deep.RegionWith
import Derived.Deep.RegionHeld3
namespace Go.Proofs.Ythjinpbclfankaa
open Go.RowKit

theorem apl3_yes {c : Cf} (h : c.ok) (he : c.e ≤ 1000) {n m f t : Int} (hf : 0 ≤ f ∧ f < t ∧ t ≤ 256) (hnm : n ≠ m) (hn : n ∈ c.srv) (hm : m ∈ c.srv) : apl c ⟨3, n, m, f, t⟩ = ({ c with e := c.e + 1, pts := pts (placeC c.pts ⟨3, n, m, f, t⟩) }, 0) := by
  have hch : change c ⟨3, n, m, f, t⟩ = (0, { c with pts := pts (placeC c.pts ⟨3, n, m, f, t⟩) }) := by
    unfold change
    rw [if_neg (by show ¬ (3 : Int) = 1; omega), if_neg (by show ¬ (3 : Int) = 2; omega), if_pos rfl, if_neg (by show ¬ (f < 0 ∨ t > 256 ∨ f ≥ t); omega), if_neg hnm, if_pos ⟨hn, hm⟩]
  unfold apl
  rw [if_pos h, if_neg (by omega), hch, if_pos rfl]
theorem apl3_no {c : Cf} (h : c.ok) (he : c.e ≤ 1000) {n m f t : Int} (hf : ¬ ((0 ≤ f ∧ f < t ∧ t ≤ 256) ∧ n ≠ m)) : ∃ er : Int, er ≠ 0 ∧ apl c ⟨3, n, m, f, t⟩ = (cfz, er) := by
  by_cases q : f < 0 ∨ t > 256 ∨ f ≥ t
  · refine ⟨71, by omega, ?_⟩
    have hch : change c ⟨3, n, m, f, t⟩ = (71, c) := by
      unfold change
      rw [if_neg (by show ¬ (3 : Int) = 1; omega), if_neg (by show ¬ (3 : Int) = 2; omega), if_pos rfl, if_pos q]
    unfold apl
    rw [if_pos h, if_neg (by omega), hch, if_neg (show ¬ (71 : Int) = 0 by decide)]
  · refine ⟨1, by omega, ?_⟩
    have hnm : n = m := by
      by_cases e : n = m
      · exact e
      · exact absurd ⟨by omega, e⟩ hf
    have hch : change c ⟨3, n, m, f, t⟩ = (1, c) := by
      unfold change
      rw [if_neg (by show ¬ (3 : Int) = 1; omega), if_neg (by show ¬ (3 : Int) = 2; omega), if_pos rfl, if_neg q, if_pos hnm]
    unfold apl
    rw [if_pos h, if_neg (by omega), hch, if_neg (show ¬ (1 : Int) = 0 by decide)]
theorem place_ok {c : Cf} (h : c.ok) {n m f t : Int} (hnm : n ≠ m) (hn : n ∈ c.srv) (hm : m ∈ c.srv) : ∀ k, 0 ≤ k → k < 256 → (placeC c.pts ⟨3, n, m, f, t⟩ k).1 ∈ c.srv ∧ (placeC c.pts ⟨3, n, m, f, t⟩ k).2 ∈ c.srv ∧ (placeC c.pts ⟨3, n, m, f, t⟩ k).1 ≠ (placeC c.pts ⟨3, n, m, f, t⟩ k).2 := fun k g1 g2 => by
  unfold placeC
  split
  · exact ⟨hn, hm, hnm⟩
  · exact cop_ok h.2.2.2 g1 g2
theorem place_twice {c : Cf} (h : c.ok) {n m f t : Int} (hnm : n ≠ m) (hn : n ∈ c.srv) (hm : m ∈ c.srv) {P : List Pt} (hP : P = pts (placeC c.pts ⟨3, n, m, f, t⟩)) : pts (placeC P ⟨3, n, m, f, t⟩) = P := by
  refine (pts_congr fun k g1 g2 => ?_).trans hP.symm
  have := pts_cop (place_ok h hnm hn hm (f := f) (t := t)) g1 g2
  rw [← hP] at this
  unfold placeC at this ⊢
  by_cases q : f ≤ k ∧ k < t
  · rw [if_pos q, if_pos q]
  · rw [if_neg q] at this ⊢
    rw [if_neg q]
    exact this
set_option maxRecDepth 100000 in
set_option maxHeartbeats 8000000 in
theorem cutsLaw_any {w : World} {v : Value} {l : List Od} (hO : InO w v l) (hl : l.length ≤ 9223372036854775807) (f t : Int) {m1 m2 : Nat} (hm1 : m1 < 256) (hm2 : m2 < 256) :
    Calls Try.prog 6 #[v, .agg #[.int .i64 f, .int .i64 t], .int .u8 m1, .int .u8 m2] w fun e w' => e = .returned (.bool true) ∧ Below w.heap.size w w' := by
  have hS : ∃ A cap, v = .slice A l.length cap := by (obtain ⟨A, cap, e, -⟩ := hO; exact ⟨A, cap, e⟩)
  obtain ⟨A, cap, rfl⟩ := hS
  have hw1 : Below w.heap.size w (w.alloc (.cells #[.int .i64 f, .int .i64 t] 28)) := (Below.refl _ _).alloc (Nat.le_refl _) _
  have HOR := Lib.hid (fun (W : World) (hW : Below (w.alloc (.cells #[.int .i64 f, .int .i64 t] 28)).heap.size (w.alloc (.cells #[.int .i64 f, .int .i64 t] 28)) W) => (hW.block w.heap.size (by simp)).trans (heap_alloc_new w (.cells #[.int .i64 f, .int .i64 t] 28)))
  have HAf := Lib.hid (fun (W : World) (hW : Below (w.alloc (.cells #[.int .i64 f, .int .i64 t] 28)).heap.size (w.alloc (.cells #[.int .i64 f, .int .i64 t] 28)) W) => after_any ((hO.below hw1).below hW) hl)
  have HW1 := Lib.hid hw1
  have HB0 := Lib.hid (Below.refl (w.alloc (.cells #[.int .i64 f, .int .i64 t] 28)).heap.size (w.alloc (.cells #[.int .i64 f, .int .i64 t] 28)))
  have hok := (aft_ok l).1
  have hfew := hok.few
  have hae := (aft_ok l).2
  have hs2 := hok.2.1
  clear hO hw1
  generalize aft l = c at HAf hok hfew hae hs2
  obtain ⟨n, hn1⟩ : ∃ x, c.srv[m1 % c.srv.length]? = some x := ⟨_, List.getElem?_eq_getElem (Nat.mod_lt _ (by omega))⟩
  have hk1l : m1 % c.srv.length < c.srv.length := Nat.mod_lt _ (by omega)
  have tm1 : (m1 : Int).tmod (c.srv.length : Int) = ((m1 % c.srv.length : Nat) : Int) := by rw [Int.tmod_eq_emod_of_nonneg (by omega)]; omega
  generalize m1 % c.srv.length = k1 at hn1 hk1l tm1
  have hin1 : n ∈ c.srv := List.mem_of_getElem? hn1
  obtain ⟨m, hn2⟩ : ∃ x, c.srv[m2 % c.srv.length]? = some x := ⟨_, List.getElem?_eq_getElem (Nat.mod_lt _ (by omega))⟩
  have hk2l : m2 % c.srv.length < c.srv.length := Nat.mod_lt _ (by omega)
  have tm2 : (m2 : Int).tmod (c.srv.length : Int) = ((m2 % c.srv.length : Nat) : Int) := by rw [Int.tmod_eq_emod_of_nonneg (by omega)]; omega
  generalize m2 % c.srv.length = k2 at hn2 hk2l tm2
  have hin2 : m ∈ c.srv := List.mem_of_getElem? hn2
  have HN1 := Lib.hid hn1
  have HN2 := Lib.hid hn2
  have HM1 := Lib.hid hin1
  have HM2 := Lib.hid hin2
  have HS2 := Lib.hid hs2
  clear hn1 hn2 hin1 hin2
  have Rr0 := Lib.hid (heap_alloc_new w (.cells #[.int .i64 f, .int .i64 t] 28))
  clear HOR
  by_cases hfit : (0 ≤ f ∧ f < t ∧ t ≤ 256) ∧ n ≠ m
  case neg =>
    obtain ⟨er, her, hap⟩ := apl3_no hok (by omega) hfit
    have HAp := Lib.hid (fun (W : World) (u : Value) (h : IC W u c) => show Calls Try.prog 13 #[u, .agg #[.int .i64 3, .int .i64 n, .int .i64 m, .int .i64 f, .int .i64 t]] W fun e w' => ∃ v', e = .returned (.tuple #[v', .int .i64 er]) ∧ IC w' v' cfz ∧ Below W.heap.size W w' ∧ OffK W u v' by (have := apply_any h (by omega) (by omega) ⟨3, n, m, f, t⟩; rw [hap] at this; exact this))
    have e0 : (er == 0) = false := by simpa using her
    have e0n : (er != 0) = true := by simpa using her
    have ez : (cfz.e == 0) = true := by decide
    clear hap
    by_cases q1 : 0 ≤ f
    case neg =>
      have d1 : decide (0 ≤ f) = false := decide_eq_false q1
      go_enter Try.func6, Try.ntmps6
      go_wp2_with fail
      go_at_call 8
      refine (shown_any _).mono ?_
      rintro e W1 ⟨rfl, hb⟩
      have HB1 := Lib.hid (HB0.out.trans (hb.mono HB0.out.size))
      have Rr1 := Lib.hid ((hb.block _ (lt_of Rr0.out)).trans Rr0.out)
      clear hb HB0  Rr0
      go_wp2_with fail
      go_at_call 12
      refine (HAf.out _ HB1.out).mono ?_
      rintro e W2 ⟨vy, rfl, hic, hb⟩
      have hic2 := hic
      obtain ⟨svy, pvy, rfl, ⟨Ay1, cy1, rfl, -⟩, ⟨Ay2, cy2, rfl, -⟩⟩ := hic2
      have hal := (Below.refl W2.heap.size W2).alloc (Nat.le_refl _) (.cells #[.int .i64 c.e, .slice Ay1 c.srv.length cy1, .slice Ay2 c.pts.length cy2, .int .i64 c.t] 26)
      have hb := hb.trans (hal.mono hb.size)
      have Hy2 := Lib.hid (HC4.made hic 26)
      clear hic hal
      have HB2 := Lib.hid (HB1.out.trans (hb.mono HB1.out.size))
      have Rr2 := Lib.hid ((hb.block _ (lt_of Rr1.out)).trans Rr1.out)
      clear hb HB1  Rr1
      obtain ⟨y0, y1, y2, y3⟩ := Hy2.out.cells
      go_wp2_with fail
      generalize W2.alloc (.cells #[.int .i64 c.e, .slice Ay1 c.srv.length cy1, .slice Ay2 c.pts.length cy2, .int .i64 c.t] 26) = Wa at HB2 Hy2 Rr2 y0 y1 y2 y3 ⊢
      obtain ⟨As, cs, es, hels⟩ := Hy2.out.srv
      simp only [Value.slice.injEq] at es
      obtain ⟨rfl, -, rfl⟩ := es
      obtain ⟨g1, o1, e1, hg, hcl⟩ := hels k1 _ HN1.out
      have hla : (0 : Int) ≤ (k1 : Int) := by omega
      have hlb : (k1 : Int) < (c.srv.length : Int) := by omega
      have hlz : ¬ (c.srv.length : Int) = 0 := by omega
      have hwr : IntKind.i64.wrap (k1 : Int) = (k1 : Int) := IntWalk.i64_in _ (by omega)
      have hwm : IntKind.i64.wrap (m1 : Int) = (m1 : Int) := IntWalk.i64_in _ (by omega)
      clear hels
      subst e1
      go_quiet (fail)
      clear hcl hg hwr hwm hla hlb hlz
      go_wp2_with fail
      have hb := below_drewN (Below.refl Wa.heap.size Wa) nq
      have HB3 := Lib.hid (HB2.out.trans (hb.mono HB2.out.size))
      have Hy3 := Lib.hid (Hy2.out.below hb)
      have Rr3 := Lib.hid ((hb.block _ (lt_of Rr2.out)).trans Rr2.out)
      clear hb HB2 Hy2 y0 y1 y2 y3 Rr2
      obtain ⟨y0, y1, y2, y3⟩ := Hy3.out.cells
      generalize Wa.drewN nq = Wb at HB3 Hy3 Rr3 y0 y1 y2 y3 ⊢
      obtain ⟨As, cs, es, hels⟩ := Hy3.out.srv
      simp only [Value.slice.injEq] at es
      obtain ⟨rfl, -, rfl⟩ := es
      obtain ⟨g2, o2, e2, hg, hcl⟩ := hels k2 _ HN2.out
      have hla : (0 : Int) ≤ (k2 : Int) := by omega
      have hlb : (k2 : Int) < (c.srv.length : Int) := by omega
      have hlz : ¬ (c.srv.length : Int) = 0 := by omega
      have hwr : IntKind.i64.wrap (k2 : Int) = (k2 : Int) := IntWalk.i64_in _ (by omega)
      have hwm : IntKind.i64.wrap (m2 : Int) = (m2 : Int) := IntWalk.i64_in _ (by omega)
      clear hels
      simp only [Option.some.injEq, Addr.mk.injEq, and_true] at e2
      obtain ⟨rfl, rfl⟩ := e2
      go_quiet (fail)
      clear hcl hg hwr hwm hla hlb hlz
      have hb := below_drewN (Below.refl Wb.heap.size Wb) nq
      have HB4 := Lib.hid (HB3.out.trans (hb.mono HB3.out.size))
      have Hy4 := Lib.hid (Hy3.out.below hb)
      have Rr4 := Lib.hid ((hb.block _ (lt_of Rr3.out)).trans Rr3.out)
      clear hb HB3 Hy3 y0 y1 y2 y3 Rr3
      obtain ⟨y0, y1, y2, y3⟩ := Hy4.out.cells
      generalize Wb.drewN nq = Wc at HB4 Hy4 Rr4 y0 y1 y2 y3 ⊢
      have r0 := cell_of_row _ _ 0 _ _ _ Rr4.out
      have r1 := cell_of_row _ _ 1 _ _ _ Rr4.out
      have hb := (Below.refl Wc.heap.size Wc).alloc (Nat.le_refl _) (.cells #[.int .i64 3, .int .i64 n, .int .i64 m, .int .i64 f, .int .i64 t] 30)
      have Ro5 := Lib.hid (heap_alloc_new Wc (.cells #[.int .i64 3, .int .i64 n, .int .i64 m, .int .i64 f, .int .i64 t] 30))
      have HB5 := Lib.hid (HB4.out.trans (hb.mono HB4.out.size))
      have Hy5 := Lib.hid (Hy4.out.below hb)
      have Rr5 := Lib.hid ((hb.block _ (lt_of Rr4.out)).trans Rr4.out)
      clear hb HB4 Hy4 y0 y1 y2 y3 Rr4
      obtain ⟨y0, y1, y2, y3⟩ := Hy5.out.cells
      go_wp2_with fail
      generalize Wc.alloc (.cells #[.int .i64 3, .int .i64 n, .int .i64 m, .int .i64 f, .int .i64 t] 30) = Wd at HB5 Hy5 Rr5 Ro5 y0 y1 y2 y3 ⊢
      clear r0 r1
      go_wp2_with fail
      go_at_call 13
      refine (HAp.out _ _ Hy5.out.ic).mono ?_
      rintro e W6 ⟨vd, rfl, hic, hb, -⟩
      have hic2 := hic
      obtain ⟨svd, pvd, rfl, ⟨Ad1, cd1, rfl, -⟩, ⟨Ad2, cd2, rfl, -⟩⟩ := hic2
      have hal := (Below.refl W6.heap.size W6).alloc (Nat.le_refl _) (.cells #[.int .i64 cfz.e, .slice Ad1 cfz.srv.length cd1, .slice Ad2 cfz.pts.length cd2, .int .i64 cfz.t] 26)
      have hb := hb.trans (hal.mono hb.size)
      have Hd6 := Lib.hid (HC4.made hic 26)
      clear hic hal
      have HB6 := Lib.hid (HB5.out.trans (hb.mono HB5.out.size))
      have Hy6 := Lib.hid (Hy5.out.below hb)
      have Rr6 := Lib.hid ((hb.block _ (lt_of Rr5.out)).trans Rr5.out)
      have Ro6 := Lib.hid ((hb.block _ (lt_of Ro5.out)).trans Ro5.out)
      clear hb HB5 Hy5 y0 y1 y2 y3 Rr5 Ro5
      obtain ⟨y0, y1, y2, y3⟩ := Hy6.out.cells
      obtain ⟨d0, d1, d2, d3⟩ := Hd6.out.cells
      have r0 := cell_of_row _ _ 0 _ _ _ Rr6.out
      have r1 := cell_of_row _ _ 1 _ _ _ Rr6.out
      go_wp2_with fail
      go_ret
      exact ⟨rfl, HW1.out.trans (HB6.out.mono HW1.out.size)⟩
    case pos =>
      by_cases q2 : f < t
      case neg =>
        have d1 : decide (0 ≤ f) = true := decide_eq_true q1
        have d2 : decide (f < t) = false := decide_eq_false q2
        go_enter Try.func6, Try.ntmps6
        go_wp2_with fail
        go_at_call 8
        refine (shown_any _).mono ?_
        rintro e W1 ⟨rfl, hb⟩
        have HB1 := Lib.hid (HB0.out.trans (hb.mono HB0.out.size))
        have Rr1 := Lib.hid ((hb.block _ (lt_of Rr0.out)).trans Rr0.out)
        clear hb HB0  Rr0
        go_wp2_with fail
        go_at_call 12
        refine (HAf.out _ HB1.out).mono ?_
        rintro e W2 ⟨vy, rfl, hic, hb⟩
        have hic2 := hic
        obtain ⟨svy, pvy, rfl, ⟨Ay1, cy1, rfl, -⟩, ⟨Ay2, cy2, rfl, -⟩⟩ := hic2
        have hal := (Below.refl W2.heap.size W2).alloc (Nat.le_refl _) (.cells #[.int .i64 c.e, .slice Ay1 c.srv.length cy1, .slice Ay2 c.pts.length cy2, .int .i64 c.t] 26)
        have hb := hb.trans (hal.mono hb.size)
        have Hy2 := Lib.hid (HC4.made hic 26)
        clear hic hal
        have HB2 := Lib.hid (HB1.out.trans (hb.mono HB1.out.size))
        have Rr2 := Lib.hid ((hb.block _ (lt_of Rr1.out)).trans Rr1.out)
        clear hb HB1  Rr1
        obtain ⟨y0, y1, y2, y3⟩ := Hy2.out.cells
        go_wp2_with fail
        generalize W2.alloc (.cells #[.int .i64 c.e, .slice Ay1 c.srv.length cy1, .slice Ay2 c.pts.length cy2, .int .i64 c.t] 26) = Wa at HB2 Hy2 Rr2 y0 y1 y2 y3 ⊢
        obtain ⟨As, cs, es, hels⟩ := Hy2.out.srv
        simp only [Value.slice.injEq] at es
        obtain ⟨rfl, -, rfl⟩ := es
        obtain ⟨g1, o1, e1, hg, hcl⟩ := hels k1 _ HN1.out
        have hla : (0 : Int) ≤ (k1 : Int) := by omega
        have hlb : (k1 : Int) < (c.srv.length : Int) := by omega
        have hlz : ¬ (c.srv.length : Int) = 0 := by omega
        have hwr : IntKind.i64.wrap (k1 : Int) = (k1 : Int) := IntWalk.i64_in _ (by omega)
        have hwm : IntKind.i64.wrap (m1 : Int) = (m1 : Int) := IntWalk.i64_in _ (by omega)
        clear hels
        subst e1
        go_quiet (fail)
        clear hcl hg hwr hwm hla hlb hlz
        go_wp2_with fail
        have hb := below_drewN (Below.refl Wa.heap.size Wa) nq
        have HB3 := Lib.hid (HB2.out.trans (hb.mono HB2.out.size))
        have Hy3 := Lib.hid (Hy2.out.below hb)
        have Rr3 := Lib.hid ((hb.block _ (lt_of Rr2.out)).trans Rr2.out)
        clear hb HB2 Hy2 y0 y1 y2 y3 Rr2
        obtain ⟨y0, y1, y2, y3⟩ := Hy3.out.cells
        generalize Wa.drewN nq = Wb at HB3 Hy3 Rr3 y0 y1 y2 y3 ⊢
        obtain ⟨As, cs, es, hels⟩ := Hy3.out.srv
        simp only [Value.slice.injEq] at es
        obtain ⟨rfl, -, rfl⟩ := es
        obtain ⟨g2, o2, e2, hg, hcl⟩ := hels k2 _ HN2.out
        have hla : (0 : Int) ≤ (k2 : Int) := by omega
        have hlb : (k2 : Int) < (c.srv.length : Int) := by omega
        have hlz : ¬ (c.srv.length : Int) = 0 := by omega
        have hwr : IntKind.i64.wrap (k2 : Int) = (k2 : Int) := IntWalk.i64_in _ (by omega)
        have hwm : IntKind.i64.wrap (m2 : Int) = (m2 : Int) := IntWalk.i64_in _ (by omega)
        clear hels
        simp only [Option.some.injEq, Addr.mk.injEq, and_true] at e2
        obtain ⟨rfl, rfl⟩ := e2
        go_quiet (fail)
        clear hcl hg hwr hwm hla hlb hlz
        have hb := below_drewN (Below.refl Wb.heap.size Wb) nq
        have HB4 := Lib.hid (HB3.out.trans (hb.mono HB3.out.size))
        have Hy4 := Lib.hid (Hy3.out.below hb)
        have Rr4 := Lib.hid ((hb.block _ (lt_of Rr3.out)).trans Rr3.out)
        clear hb HB3 Hy3 y0 y1 y2 y3 Rr3
        obtain ⟨y0, y1, y2, y3⟩ := Hy4.out.cells
        generalize Wb.drewN nq = Wc at HB4 Hy4 Rr4 y0 y1 y2 y3 ⊢
        have r0 := cell_of_row _ _ 0 _ _ _ Rr4.out
        have r1 := cell_of_row _ _ 1 _ _ _ Rr4.out
        have hb := (Below.refl Wc.heap.size Wc).alloc (Nat.le_refl _) (.cells #[.int .i64 3, .int .i64 n, .int .i64 m, .int .i64 f, .int .i64 t] 30)
        have Ro5 := Lib.hid (heap_alloc_new Wc (.cells #[.int .i64 3, .int .i64 n, .int .i64 m, .int .i64 f, .int .i64 t] 30))
        have HB5 := Lib.hid (HB4.out.trans (hb.mono HB4.out.size))
        have Hy5 := Lib.hid (Hy4.out.below hb)
        have Rr5 := Lib.hid ((hb.block _ (lt_of Rr4.out)).trans Rr4.out)
        clear hb HB4 Hy4 y0 y1 y2 y3 Rr4
        obtain ⟨y0, y1, y2, y3⟩ := Hy5.out.cells
        go_wp2_with fail
        generalize Wc.alloc (.cells #[.int .i64 3, .int .i64 n, .int .i64 m, .int .i64 f, .int .i64 t] 30) = Wd at HB5 Hy5 Rr5 Ro5 y0 y1 y2 y3 ⊢
        clear r0 r1
        go_wp2_with fail
        go_at_call 13
        refine (HAp.out _ _ Hy5.out.ic).mono ?_
        rintro e W6 ⟨vd, rfl, hic, hb, -⟩
        have hic2 := hic
        obtain ⟨svd, pvd, rfl, ⟨Ad1, cd1, rfl, -⟩, ⟨Ad2, cd2, rfl, -⟩⟩ := hic2
        have hal := (Below.refl W6.heap.size W6).alloc (Nat.le_refl _) (.cells #[.int .i64 cfz.e, .slice Ad1 cfz.srv.length cd1, .slice Ad2 cfz.pts.length cd2, .int .i64 cfz.t] 26)
        have hb := hb.trans (hal.mono hb.size)
        have Hd6 := Lib.hid (HC4.made hic 26)
        clear hic hal
        have HB6 := Lib.hid (HB5.out.trans (hb.mono HB5.out.size))
        have Hy6 := Lib.hid (Hy5.out.below hb)
        have Rr6 := Lib.hid ((hb.block _ (lt_of Rr5.out)).trans Rr5.out)
        have Ro6 := Lib.hid ((hb.block _ (lt_of Ro5.out)).trans Ro5.out)
        clear hb HB5 Hy5 y0 y1 y2 y3 Rr5 Ro5
        obtain ⟨y0, y1, y2, y3⟩ := Hy6.out.cells
        obtain ⟨d0, d1, d2, d3⟩ := Hd6.out.cells
        have r0 := cell_of_row _ _ 0 _ _ _ Rr6.out
        have r1 := cell_of_row _ _ 1 _ _ _ Rr6.out
        go_wp2_with fail
        go_ret
        exact ⟨rfl, HW1.out.trans (HB6.out.mono HW1.out.size)⟩
      case pos =>
        by_cases q3 : t ≤ 256
        case neg =>
          have d1 : decide (0 ≤ f) = true := decide_eq_true q1
          have d2 : decide (f < t) = true := decide_eq_true q2
          have d3 : decide (t ≤ 256) = false := decide_eq_false q3
          go_enter Try.func6, Try.ntmps6
          go_wp2_with fail
          go_at_call 8
          refine (shown_any _).mono ?_
          rintro e W1 ⟨rfl, hb⟩
          have HB1 := Lib.hid (HB0.out.trans (hb.mono HB0.out.size))
          have Rr1 := Lib.hid ((hb.block _ (lt_of Rr0.out)).trans Rr0.out)
          clear hb HB0  Rr0
          go_wp2_with fail
          go_at_call 12
          refine (HAf.out _ HB1.out).mono ?_
          rintro e W2 ⟨vy, rfl, hic, hb⟩
          have hic2 := hic
          obtain ⟨svy, pvy, rfl, ⟨Ay1, cy1, rfl, -⟩, ⟨Ay2, cy2, rfl, -⟩⟩ := hic2
          have hal := (Below.refl W2.heap.size W2).alloc (Nat.le_refl _) (.cells #[.int .i64 c.e, .slice Ay1 c.srv.length cy1, .slice Ay2 c.pts.length cy2, .int .i64 c.t] 26)
          have hb := hb.trans (hal.mono hb.size)
          have Hy2 := Lib.hid (HC4.made hic 26)
          clear hic hal
          have HB2 := Lib.hid (HB1.out.trans (hb.mono HB1.out.size))
          have Rr2 := Lib.hid ((hb.block _ (lt_of Rr1.out)).trans Rr1.out)
          clear hb HB1  Rr1
          obtain ⟨y0, y1, y2, y3⟩ := Hy2.out.cells
          go_wp2_with fail
          generalize W2.alloc (.cells #[.int .i64 c.e, .slice Ay1 c.srv.length cy1, .slice Ay2 c.pts.length cy2, .int .i64 c.t] 26) = Wa at HB2 Hy2 Rr2 y0 y1 y2 y3 ⊢
          obtain ⟨As, cs, es, hels⟩ := Hy2.out.srv
          simp only [Value.slice.injEq] at es
          obtain ⟨rfl, -, rfl⟩ := es
          obtain ⟨g1, o1, e1, hg, hcl⟩ := hels k1 _ HN1.out
          have hla : (0 : Int) ≤ (k1 : Int) := by omega
          have hlb : (k1 : Int) < (c.srv.length : Int) := by omega
          have hlz : ¬ (c.srv.length : Int) = 0 := by omega
          have hwr : IntKind.i64.wrap (k1 : Int) = (k1 : Int) := IntWalk.i64_in _ (by omega)
          have hwm : IntKind.i64.wrap (m1 : Int) = (m1 : Int) := IntWalk.i64_in _ (by omega)
          clear hels
          subst e1
          go_quiet (fail)
          clear hcl hg hwr hwm hla hlb hlz
          go_wp2_with fail
          have hb := below_drewN (Below.refl Wa.heap.size Wa) nq
          have HB3 := Lib.hid (HB2.out.trans (hb.mono HB2.out.size))
          have Hy3 := Lib.hid (Hy2.out.below hb)
          have Rr3 := Lib.hid ((hb.block _ (lt_of Rr2.out)).trans Rr2.out)
          clear hb HB2 Hy2 y0 y1 y2 y3 Rr2
          obtain ⟨y0, y1, y2, y3⟩ := Hy3.out.cells
          generalize Wa.drewN nq = Wb at HB3 Hy3 Rr3 y0 y1 y2 y3 ⊢
          obtain ⟨As, cs, es, hels⟩ := Hy3.out.srv
          simp only [Value.slice.injEq] at es
          obtain ⟨rfl, -, rfl⟩ := es
          obtain ⟨g2, o2, e2, hg, hcl⟩ := hels k2 _ HN2.out
          have hla : (0 : Int) ≤ (k2 : Int) := by omega
          have hlb : (k2 : Int) < (c.srv.length : Int) := by omega
          have hlz : ¬ (c.srv.length : Int) = 0 := by omega
          have hwr : IntKind.i64.wrap (k2 : Int) = (k2 : Int) := IntWalk.i64_in _ (by omega)
          have hwm : IntKind.i64.wrap (m2 : Int) = (m2 : Int) := IntWalk.i64_in _ (by omega)
          clear hels
          simp only [Option.some.injEq, Addr.mk.injEq, and_true] at e2
          obtain ⟨rfl, rfl⟩ := e2
          go_quiet (fail)
          clear hcl hg hwr hwm hla hlb hlz
          have hb := below_drewN (Below.refl Wb.heap.size Wb) nq
          have HB4 := Lib.hid (HB3.out.trans (hb.mono HB3.out.size))
          have Hy4 := Lib.hid (Hy3.out.below hb)
          have Rr4 := Lib.hid ((hb.block _ (lt_of Rr3.out)).trans Rr3.out)
          clear hb HB3 Hy3 y0 y1 y2 y3 Rr3
          obtain ⟨y0, y1, y2, y3⟩ := Hy4.out.cells
          generalize Wb.drewN nq = Wc at HB4 Hy4 Rr4 y0 y1 y2 y3 ⊢
          have r0 := cell_of_row _ _ 0 _ _ _ Rr4.out
          have r1 := cell_of_row _ _ 1 _ _ _ Rr4.out
          have hb := (Below.refl Wc.heap.size Wc).alloc (Nat.le_refl _) (.cells #[.int .i64 3, .int .i64 n, .int .i64 m, .int .i64 f, .int .i64 t] 30)
          have Ro5 := Lib.hid (heap_alloc_new Wc (.cells #[.int .i64 3, .int .i64 n, .int .i64 m, .int .i64 f, .int .i64 t] 30))
          have HB5 := Lib.hid (HB4.out.trans (hb.mono HB4.out.size))
          have Hy5 := Lib.hid (Hy4.out.below hb)
          have Rr5 := Lib.hid ((hb.block _ (lt_of Rr4.out)).trans Rr4.out)
          clear hb HB4 Hy4 y0 y1 y2 y3 Rr4
          obtain ⟨y0, y1, y2, y3⟩ := Hy5.out.cells
          go_wp2_with fail
          generalize Wc.alloc (.cells #[.int .i64 3, .int .i64 n, .int .i64 m, .int .i64 f, .int .i64 t] 30) = Wd at HB5 Hy5 Rr5 Ro5 y0 y1 y2 y3 ⊢
          clear r0 r1
          go_wp2_with fail
          go_at_call 13
          refine (HAp.out _ _ Hy5.out.ic).mono ?_
          rintro e W6 ⟨vd, rfl, hic, hb, -⟩
          have hic2 := hic
          obtain ⟨svd, pvd, rfl, ⟨Ad1, cd1, rfl, -⟩, ⟨Ad2, cd2, rfl, -⟩⟩ := hic2
          have hal := (Below.refl W6.heap.size W6).alloc (Nat.le_refl _) (.cells #[.int .i64 cfz.e, .slice Ad1 cfz.srv.length cd1, .slice Ad2 cfz.pts.length cd2, .int .i64 cfz.t] 26)
          have hb := hb.trans (hal.mono hb.size)
          have Hd6 := Lib.hid (HC4.made hic 26)
          clear hic hal
          have HB6 := Lib.hid (HB5.out.trans (hb.mono HB5.out.size))
          have Hy6 := Lib.hid (Hy5.out.below hb)
          have Rr6 := Lib.hid ((hb.block _ (lt_of Rr5.out)).trans Rr5.out)
          have Ro6 := Lib.hid ((hb.block _ (lt_of Ro5.out)).trans Ro5.out)
          clear hb HB5 Hy5 y0 y1 y2 y3 Rr5 Ro5
          obtain ⟨y0, y1, y2, y3⟩ := Hy6.out.cells
          obtain ⟨d0, d1, d2, d3⟩ := Hd6.out.cells
          have r0 := cell_of_row _ _ 0 _ _ _ Rr6.out
          have r1 := cell_of_row _ _ 1 _ _ _ Rr6.out
          go_wp2_with fail
          go_ret
          exact ⟨rfl, HW1.out.trans (HB6.out.mono HW1.out.size)⟩
        case pos =>
          have qn : (n != m) = false := by (have : n = m := by (by_cases e : n = m; exact e; exact absurd ⟨⟨q1, q2, q3⟩, e⟩ hfit)); simpa using this
          have d1 : decide (0 ≤ f) = true := decide_eq_true q1
          have d2 : decide (f < t) = true := decide_eq_true q2
          have d3 : decide (t ≤ 256) = true := decide_eq_true q3
          go_enter Try.func6, Try.ntmps6
          go_wp2_with fail
          go_at_call 8
          refine (shown_any _).mono ?_
          rintro e W1 ⟨rfl, hb⟩
          have HB1 := Lib.hid (HB0.out.trans (hb.mono HB0.out.size))
          have Rr1 := Lib.hid ((hb.block _ (lt_of Rr0.out)).trans Rr0.out)
          clear hb HB0  Rr0
          go_wp2_with fail
          go_at_call 12
          refine (HAf.out _ HB1.out).mono ?_
          rintro e W2 ⟨vy, rfl, hic, hb⟩
          have hic2 := hic
          obtain ⟨svy, pvy, rfl, ⟨Ay1, cy1, rfl, -⟩, ⟨Ay2, cy2, rfl, -⟩⟩ := hic2
          have hal := (Below.refl W2.heap.size W2).alloc (Nat.le_refl _) (.cells #[.int .i64 c.e, .slice Ay1 c.srv.length cy1, .slice Ay2 c.pts.length cy2, .int .i64 c.t] 26)
          have hb := hb.trans (hal.mono hb.size)
          have Hy2 := Lib.hid (HC4.made hic 26)
          clear hic hal
          have HB2 := Lib.hid (HB1.out.trans (hb.mono HB1.out.size))
          have Rr2 := Lib.hid ((hb.block _ (lt_of Rr1.out)).trans Rr1.out)
          clear hb HB1  Rr1
          obtain ⟨y0, y1, y2, y3⟩ := Hy2.out.cells
          go_wp2_with fail
          generalize W2.alloc (.cells #[.int .i64 c.e, .slice Ay1 c.srv.length cy1, .slice Ay2 c.pts.length cy2, .int .i64 c.t] 26) = Wa at HB2 Hy2 Rr2 y0 y1 y2 y3 ⊢
          obtain ⟨As, cs, es, hels⟩ := Hy2.out.srv
          simp only [Value.slice.injEq] at es
          obtain ⟨rfl, -, rfl⟩ := es
          obtain ⟨g1, o1, e1, hg, hcl⟩ := hels k1 _ HN1.out
          have hla : (0 : Int) ≤ (k1 : Int) := by omega
          have hlb : (k1 : Int) < (c.srv.length : Int) := by omega
          have hlz : ¬ (c.srv.length : Int) = 0 := by omega
          have hwr : IntKind.i64.wrap (k1 : Int) = (k1 : Int) := IntWalk.i64_in _ (by omega)
          have hwm : IntKind.i64.wrap (m1 : Int) = (m1 : Int) := IntWalk.i64_in _ (by omega)
          clear hels
          subst e1
          go_quiet (fail)
          clear hcl hg hwr hwm hla hlb hlz
          go_wp2_with fail
          have hb := below_drewN (Below.refl Wa.heap.size Wa) nq
          have HB3 := Lib.hid (HB2.out.trans (hb.mono HB2.out.size))
          have Hy3 := Lib.hid (Hy2.out.below hb)
          have Rr3 := Lib.hid ((hb.block _ (lt_of Rr2.out)).trans Rr2.out)
          clear hb HB2 Hy2 y0 y1 y2 y3 Rr2
          obtain ⟨y0, y1, y2, y3⟩ := Hy3.out.cells
          generalize Wa.drewN nq = Wb at HB3 Hy3 Rr3 y0 y1 y2 y3 ⊢
          obtain ⟨As, cs, es, hels⟩ := Hy3.out.srv
          simp only [Value.slice.injEq] at es
          obtain ⟨rfl, -, rfl⟩ := es
          obtain ⟨g2, o2, e2, hg, hcl⟩ := hels k2 _ HN2.out
          have hla : (0 : Int) ≤ (k2 : Int) := by omega
          have hlb : (k2 : Int) < (c.srv.length : Int) := by omega
          have hlz : ¬ (c.srv.length : Int) = 0 := by omega
          have hwr : IntKind.i64.wrap (k2 : Int) = (k2 : Int) := IntWalk.i64_in _ (by omega)
          have hwm : IntKind.i64.wrap (m2 : Int) = (m2 : Int) := IntWalk.i64_in _ (by omega)
          clear hels
          simp only [Option.some.injEq, Addr.mk.injEq, and_true] at e2
          obtain ⟨rfl, rfl⟩ := e2
          go_quiet (fail)
          clear hcl hg hwr hwm hla hlb hlz
          have hb := below_drewN (Below.refl Wb.heap.size Wb) nq
          have HB4 := Lib.hid (HB3.out.trans (hb.mono HB3.out.size))
          have Hy4 := Lib.hid (Hy3.out.below hb)
          have Rr4 := Lib.hid ((hb.block _ (lt_of Rr3.out)).trans Rr3.out)
          clear hb HB3 Hy3 y0 y1 y2 y3 Rr3
          obtain ⟨y0, y1, y2, y3⟩ := Hy4.out.cells
          generalize Wb.drewN nq = Wc at HB4 Hy4 Rr4 y0 y1 y2 y3 ⊢
          have r0 := cell_of_row _ _ 0 _ _ _ Rr4.out
          have r1 := cell_of_row _ _ 1 _ _ _ Rr4.out
          have hb := (Below.refl Wc.heap.size Wc).alloc (Nat.le_refl _) (.cells #[.int .i64 3, .int .i64 n, .int .i64 m, .int .i64 f, .int .i64 t] 30)
          have Ro5 := Lib.hid (heap_alloc_new Wc (.cells #[.int .i64 3, .int .i64 n, .int .i64 m, .int .i64 f, .int .i64 t] 30))
          have HB5 := Lib.hid (HB4.out.trans (hb.mono HB4.out.size))
          have Hy5 := Lib.hid (Hy4.out.below hb)
          have Rr5 := Lib.hid ((hb.block _ (lt_of Rr4.out)).trans Rr4.out)
          clear hb HB4 Hy4 y0 y1 y2 y3 Rr4
          obtain ⟨y0, y1, y2, y3⟩ := Hy5.out.cells
          go_wp2_with fail
          generalize Wc.alloc (.cells #[.int .i64 3, .int .i64 n, .int .i64 m, .int .i64 f, .int .i64 t] 30) = Wd at HB5 Hy5 Rr5 Ro5 y0 y1 y2 y3 ⊢
          clear r0 r1
          go_wp2_with fail
          go_at_call 13
          refine (HAp.out _ _ Hy5.out.ic).mono ?_
          rintro e W6 ⟨vd, rfl, hic, hb, -⟩
          have hic2 := hic
          obtain ⟨svd, pvd, rfl, ⟨Ad1, cd1, rfl, -⟩, ⟨Ad2, cd2, rfl, -⟩⟩ := hic2
          have hal := (Below.refl W6.heap.size W6).alloc (Nat.le_refl _) (.cells #[.int .i64 cfz.e, .slice Ad1 cfz.srv.length cd1, .slice Ad2 cfz.pts.length cd2, .int .i64 cfz.t] 26)
          have hb := hb.trans (hal.mono hb.size)
          have Hd6 := Lib.hid (HC4.made hic 26)
          clear hic hal
          have HB6 := Lib.hid (HB5.out.trans (hb.mono HB5.out.size))
          have Hy6 := Lib.hid (Hy5.out.below hb)
          have Rr6 := Lib.hid ((hb.block _ (lt_of Rr5.out)).trans Rr5.out)
          have Ro6 := Lib.hid ((hb.block _ (lt_of Ro5.out)).trans Ro5.out)
          clear hb HB5 Hy5 y0 y1 y2 y3 Rr5 Ro5
          obtain ⟨y0, y1, y2, y3⟩ := Hy6.out.cells
          obtain ⟨d0, d1, d2, d3⟩ := Hd6.out.cells
          have r0 := cell_of_row _ _ 0 _ _ _ Rr6.out
          have r1 := cell_of_row _ _ 1 _ _ _ Rr6.out
          go_wp2_with fail
          go_ret
          exact ⟨rfl, HW1.out.trans (HB6.out.mono HW1.out.size)⟩
  case pos =>
    obtain ⟨⟨q1, q2, q3⟩, qn⟩ := hfit
    have hap := apl3_yes hok (by omega) ⟨q1, q2, q3⟩ qn HM1.out HM2.out
    have hpo := place_ok hok qn HM1.out HM2.out (f := f) (t := t)
    obtain ⟨P, hP⟩ : ∃ P, pts (placeC c.pts ⟨3, n, m, f, t⟩) = P := ⟨_, rfl⟩
    rw [hP] at hap
    obtain ⟨d, hd⟩ : ∃ d : Cf, ({ c with e := c.e + 1, pts := P } : Cf) = d := ⟨_, rfl⟩
    rw [hd] at hap
    have hde : d.e = c.e + 1 := by rw [← hd]
    have hdp : d.pts = P := by rw [← hd]
    have hds : d.srv = c.srv := by rw [← hd]
    have hdok : d.ok := by (have := (apl_ok hok ⟨3, n, m, f, t⟩ (by rw [hap])).1; rw [hap] at this; exact this)
    have hdf := hdok.few
    have hap2 : apl d ⟨3, n, m, f, t⟩ = ({ d with e := d.e + 1 }, 0) := by
      have h1 := apl3_yes hdok (by omega) ⟨q1, q2, q3⟩ qn (by rw [hds]; exact HM1.out) (by rw [hds]; exact HM2.out)
      have h2 := place_twice hok qn HM1.out HM2.out (P := d.pts) (f := f) (t := t) (by rw [hdp, ← hP])
      rw [h1, h2]
    have hlen : d.pts.length ≤ c.pts.length + 2 := by
      have e : placeC c.pts ⟨3, n, m, f, t⟩ = fun k => if f ≤ k ∧ k < t then (n, m) else cop c.pts k := rfl
      rw [hdp, ← hP, e]
      exact place_len hok.2.2.2 f t (n, m)
    have hcd : ∀ k, 0 ≤ k → k < 256 → cop d.pts k = if f ≤ k ∧ k < t then (n, m) else cop c.pts k := fun k g1 g2 => by
      rw [hdp, ← hP, pts_cop hpo g1 g2]; rfl
    obtain ⟨z, hz⟩ : ∃ z : Cf, ({ d with e := d.e + 1 } : Cf) = z := ⟨_, rfl⟩
    rw [hz] at hap2
    have HZ := Lib.hid hz
    clear hz
    have HCD := Lib.hid hcd
    have HLEN := Lib.hid hlen
    have HDE := Lib.hid hde
    clear hcd hlen hpo hP hd hdp hds
    have HAp := Lib.hid (fun (W : World) (u : Value) (h : IC W u c) => show Calls Try.prog 13 #[u, .agg #[.int .i64 3, .int .i64 n, .int .i64 m, .int .i64 f, .int .i64 t]] W fun e w' => ∃ v', e = .returned (.tuple #[v', .int .i64 0]) ∧ IC w' v' d ∧ Below W.heap.size W w' ∧ OffK W u v' by (have := apply_any h (by omega) (by omega) ⟨3, n, m, f, t⟩; rw [hap] at this; exact this))
    have HAq := Lib.hid (fun (W : World) (u : Value) (h : IC W u d) => show Calls Try.prog 13 #[u, .agg #[.int .i64 3, .int .i64 n, .int .i64 m, .int .i64 f, .int .i64 t]] W fun e w' => ∃ v', e = .returned (.tuple #[v', .int .i64 0]) ∧ IC w' v' z ∧ Below W.heap.size W w' ∧ OffK W u v' by (have := apply_any h (by omega) (by omega) ⟨3, n, m, f, t⟩; rw [hap2] at this; exact this))
    have HWc := Lib.hid (fun (k : Int) (g1 : 0 ≤ k) (g2 : k < 256) (W : World) (u : Value) (h : IC W u c) => show Calls Try.prog 16 #[u, .int .i64 k] W fun e w' => e = .returned (.tuple #[.int .i64 (cop c.pts k).1, .int .i64 (cop c.pts k).2, .int .i64 0]) ∧ Below W.heap.size W w' by (have := where_any h hok (by omega) k; rw [whrE_some (whr_cop hok.2.2.2 g1 g2)] at this; exact this))
    have HWd := Lib.hid (fun (k : Int) (g1 : 0 ≤ k) (g2 : k < 256) (W : World) (u : Value) (h : IC W u d) => show Calls Try.prog 16 #[u, .int .i64 k] W fun e w' => e = .returned (.tuple #[.int .i64 (cop d.pts k).1, .int .i64 (cop d.pts k).2, .int .i64 0]) ∧ Below W.heap.size W w' by (have := where_any h hdok (by omega) k; rw [whrE_some (whr_cop hdok.2.2.2 g1 g2)] at this; exact this))
    have qn' : (n != m) = true := by simpa using qn
    have d1 : decide (0 ≤ f) = true := decide_eq_true q1
    have d2 : decide (f < t) = true := decide_eq_true q2
    have d3 : decide (t ≤ 256) = true := decide_eq_true q3
    clear hap hap2 hde
    go_enter Try.func6, Try.ntmps6
    go_wp2_with fail
    go_at_call 8
    refine (shown_any _).mono ?_
    rintro e W1 ⟨rfl, hb⟩
    have HB1 := Lib.hid (HB0.out.trans (hb.mono HB0.out.size))
    have Rr1 := Lib.hid ((hb.block _ (lt_of Rr0.out)).trans Rr0.out)
    clear hb HB0  Rr0
    go_wp2_with fail
    go_at_call 12
    refine (HAf.out _ HB1.out).mono ?_
    rintro e W2 ⟨vy, rfl, hic, hb⟩
    have hic2 := hic
    obtain ⟨svy, pvy, rfl, ⟨Ay1, cy1, rfl, -⟩, ⟨Ay2, cy2, rfl, -⟩⟩ := hic2
    have hal := (Below.refl W2.heap.size W2).alloc (Nat.le_refl _) (.cells #[.int .i64 c.e, .slice Ay1 c.srv.length cy1, .slice Ay2 c.pts.length cy2, .int .i64 c.t] 26)
    have hb := hb.trans (hal.mono hb.size)
    have Hy2 := Lib.hid (HC4.made hic 26)
    clear hic hal
    have HB2 := Lib.hid (HB1.out.trans (hb.mono HB1.out.size))
    have Rr2 := Lib.hid ((hb.block _ (lt_of Rr1.out)).trans Rr1.out)
    clear hb HB1  Rr1
    obtain ⟨y0, y1, y2, y3⟩ := Hy2.out.cells
    go_wp2_with fail
    generalize W2.alloc (.cells #[.int .i64 c.e, .slice Ay1 c.srv.length cy1, .slice Ay2 c.pts.length cy2, .int .i64 c.t] 26) = Wa at HB2 Hy2 Rr2 y0 y1 y2 y3 ⊢
    obtain ⟨As, cs, es, hels⟩ := Hy2.out.srv
    simp only [Value.slice.injEq] at es
    obtain ⟨rfl, -, rfl⟩ := es
    obtain ⟨g1, o1, e1, hg, hcl⟩ := hels k1 _ HN1.out
    have hla : (0 : Int) ≤ (k1 : Int) := by omega
    have hlb : (k1 : Int) < (c.srv.length : Int) := by omega
    have hlz : ¬ (c.srv.length : Int) = 0 := by omega
    have hwr : IntKind.i64.wrap (k1 : Int) = (k1 : Int) := IntWalk.i64_in _ (by omega)
    have hwm : IntKind.i64.wrap (m1 : Int) = (m1 : Int) := IntWalk.i64_in _ (by omega)
    clear hels
    subst e1
    go_quiet (fail)
    clear hcl hg hwr hwm hla hlb hlz
    go_wp2_with fail
    have hb := below_drewN (Below.refl Wa.heap.size Wa) nq
    have HB3 := Lib.hid (HB2.out.trans (hb.mono HB2.out.size))
    have Hy3 := Lib.hid (Hy2.out.below hb)
    have Rr3 := Lib.hid ((hb.block _ (lt_of Rr2.out)).trans Rr2.out)
    clear hb HB2 Hy2 y0 y1 y2 y3 Rr2
    obtain ⟨y0, y1, y2, y3⟩ := Hy3.out.cells
    generalize Wa.drewN nq = Wb at HB3 Hy3 Rr3 y0 y1 y2 y3 ⊢
    obtain ⟨As, cs, es, hels⟩ := Hy3.out.srv
    simp only [Value.slice.injEq] at es
    obtain ⟨rfl, -, rfl⟩ := es
    obtain ⟨g2, o2, e2, hg, hcl⟩ := hels k2 _ HN2.out
    have hla : (0 : Int) ≤ (k2 : Int) := by omega
    have hlb : (k2 : Int) < (c.srv.length : Int) := by omega
    have hlz : ¬ (c.srv.length : Int) = 0 := by omega
    have hwr : IntKind.i64.wrap (k2 : Int) = (k2 : Int) := IntWalk.i64_in _ (by omega)
    have hwm : IntKind.i64.wrap (m2 : Int) = (m2 : Int) := IntWalk.i64_in _ (by omega)
    clear hels
    simp only [Option.some.injEq, Addr.mk.injEq, and_true] at e2
    obtain ⟨rfl, rfl⟩ := e2
    go_quiet (fail)
    clear hcl hg hwr hwm hla hlb hlz
    have hb := below_drewN (Below.refl Wb.heap.size Wb) nq
    have HB4 := Lib.hid (HB3.out.trans (hb.mono HB3.out.size))
    have Hy4 := Lib.hid (Hy3.out.below hb)
    have Rr4 := Lib.hid ((hb.block _ (lt_of Rr3.out)).trans Rr3.out)
    clear hb HB3 Hy3 y0 y1 y2 y3 Rr3
    obtain ⟨y0, y1, y2, y3⟩ := Hy4.out.cells
    generalize Wb.drewN nq = Wc at HB4 Hy4 Rr4 y0 y1 y2 y3 ⊢
    have r0 := cell_of_row _ _ 0 _ _ _ Rr4.out
    have r1 := cell_of_row _ _ 1 _ _ _ Rr4.out
    have hb := (Below.refl Wc.heap.size Wc).alloc (Nat.le_refl _) (.cells #[.int .i64 3, .int .i64 n, .int .i64 m, .int .i64 f, .int .i64 t] 30)
    have Ro5 := Lib.hid (heap_alloc_new Wc (.cells #[.int .i64 3, .int .i64 n, .int .i64 m, .int .i64 f, .int .i64 t] 30))
    have HB5 := Lib.hid (HB4.out.trans (hb.mono HB4.out.size))
    have Hy5 := Lib.hid (Hy4.out.below hb)
    have Rr5 := Lib.hid ((hb.block _ (lt_of Rr4.out)).trans Rr4.out)
    clear hb HB4 Hy4 y0 y1 y2 y3 Rr4
    obtain ⟨y0, y1, y2, y3⟩ := Hy5.out.cells
    go_wp2_with fail
    generalize Wc.alloc (.cells #[.int .i64 3, .int .i64 n, .int .i64 m, .int .i64 f, .int .i64 t] 30) = Wd at HB5 Hy5 Rr5 Ro5 y0 y1 y2 y3 ⊢
    clear r0 r1
    go_wp2_with fail
    go_at_call 13
    refine (HAp.out _ _ Hy5.out.ic).mono ?_
    rintro e W6 ⟨vd, rfl, hic, hb, -⟩
    have hic2 := hic
    obtain ⟨svd, pvd, rfl, ⟨Ad1, cd1, rfl, -⟩, ⟨Ad2, cd2, rfl, -⟩⟩ := hic2
    have hal := (Below.refl W6.heap.size W6).alloc (Nat.le_refl _) (.cells #[.int .i64 d.e, .slice Ad1 d.srv.length cd1, .slice Ad2 d.pts.length cd2, .int .i64 d.t] 26)
    have hb := hb.trans (hal.mono hb.size)
    have Hd6 := Lib.hid (HC4.made hic 26)
    clear hic hal
    have HB6 := Lib.hid (HB5.out.trans (hb.mono HB5.out.size))
    have Hy6 := Lib.hid (Hy5.out.below hb)
    have Rr6 := Lib.hid ((hb.block _ (lt_of Rr5.out)).trans Rr5.out)
    have Ro6 := Lib.hid ((hb.block _ (lt_of Ro5.out)).trans Ro5.out)
    clear hb HB5 Hy5 y0 y1 y2 y3 Rr5 Ro5
    obtain ⟨y0, y1, y2, y3⟩ := Hy6.out.cells
    obtain ⟨d0, d1, d2, d3⟩ := Hd6.out.cells
    have r0 := cell_of_row _ _ 0 _ _ _ Rr6.out
    have r1 := cell_of_row _ _ 1 _ _ _ Rr6.out
    go_wp2_with fail
    generalize W6.alloc (.cells #[.int .i64 d.e, .slice Ad1 d.srv.length cd1, .slice Ad2 d.pts.length cd2, .int .i64 d.t] 26) = We at HB6 Hy6 Hd6 Rr6 Ro6 y0 y1 y2 y3 d0 d1 d2 d3 r0 r1 ⊢
    clear y0 y1 y2 y3 d0 d1 d2 d3 r0 r1
    go_loopw [16] (fun iv wr => ∃ k : Nat, k ≤ 256 ∧ iv = .int .i64 k ∧ Below We.heap.size We wr) (fun iv _ => 256 - (intOf iv).toNat)
    case atStart => exact ⟨0, by omega, rfl, Below.refl _ _⟩
    case round =>
      obtain ⟨k, hk, rfl, hb⟩ := hrel
      have HB100 := Lib.hid (HB6.out.trans (hb.mono HB6.out.size))
      have HBr100 := Lib.hid hb
      have Hy100 := Lib.hid (Hy6.out.below hb)
      have Hd100 := Lib.hid (Hd6.out.below hb)
      have Rr100 := Lib.hid ((hb.block _ (lt_of Rr6.out)).trans Rr6.out)
      have Ro100 := Lib.hid ((hb.block _ (lt_of Ro6.out)).trans Ro6.out)
      clear hb
      obtain ⟨y0, y1, y2, y3⟩ := Hy100.out.cells
      obtain ⟨d0, d1, d2, d3⟩ := Hd100.out.cells
      by_cases hlt : k < 256
      case pos =>
        have hkI : (0 : Int) ≤ (k : Int) := by omega
        have hlI : (k : Int) < 256 := by omega
        have HX := Lib.hid (HWc.out k hkI hlI)
        have HY := Lib.hid (HWd.out k hkI hlI)
        rw [HCD.out k hkI hlI] at HY
        generalize cop c.pts (k : Int) = x at HX HY
        obtain ⟨xa, xb⟩ := x
        by_cases hin : f ≤ (k : Int) ∧ (k : Int) < t
        case pos =>
          rw [if_pos hin] at HY
          have g1 : decide (f ≤ (k : Int)) = true := decide_eq_true hin.1
          have g2 : decide ((k : Int) < t) = true := decide_eq_true hin.2
          go_wp2_with fail
          go_at_call 16
          refine (HX.out _ _ Hy100.out.ic).mono ?_
          rintro e W101 ⟨rfl, hb⟩
          have HB101 := Lib.hid (HB100.out.trans (hb.mono HB100.out.size))
          have Hy101 := Lib.hid (Hy100.out.below hb)
          have Hd101 := Lib.hid (Hd100.out.below hb)
          have HBw101 := Lib.hid (HBr100.out.trans (hb.mono HBr100.out.size))
          have Rr101 := Lib.hid ((hb.block _ (lt_of Rr100.out)).trans Rr100.out)
          have Ro101 := Lib.hid ((hb.block _ (lt_of Ro100.out)).trans Ro100.out)
          clear hb HB100 Hy100 y0 y1 y2 y3 Hd100 d0 d1 d2 d3 Rr100 Ro100
          obtain ⟨y0, y1, y2, y3⟩ := Hy101.out.cells
          obtain ⟨d0, d1, d2, d3⟩ := Hd101.out.cells
          go_wp2_with fail
          go_at_call 16
          refine (HY.out _ _ Hd101.out.ic).mono ?_
          rintro e W102 ⟨rfl, hb⟩
          have HB102 := Lib.hid (HB101.out.trans (hb.mono HB101.out.size))
          have Hy102 := Lib.hid (Hy101.out.below hb)
          have Hd102 := Lib.hid (Hd101.out.below hb)
          have HBw102 := Lib.hid (HBw101.out.trans (hb.mono HBw101.out.size))
          have Rr102 := Lib.hid ((hb.block _ (lt_of Rr101.out)).trans Rr101.out)
          have Ro102 := Lib.hid ((hb.block _ (lt_of Ro101.out)).trans Ro101.out)
          clear hb HB101 Hy101 y0 y1 y2 y3 Hd101 d0 d1 d2 d3 Rr101 Ro101
          obtain ⟨y0, y1, y2, y3⟩ := Hy102.out.cells
          obtain ⟨d0, d1, d2, d3⟩ := Hd102.out.cells
          have r0 := cell_of_row _ _ 0 _ _ _ Rr102.out
          have r1 := cell_of_row _ _ 1 _ _ _ Rr102.out
          go_wp2_with fail
          go_roundw
          case rel => exact ⟨k + 1, by omega, by go_num, HBw102.out⟩
          case measure => simp only [intOf]; omega
        case neg =>
          rw [if_neg hin] at HY
          by_cases hf1 : f ≤ (k : Int)
          case pos =>
            have g1 : decide (f ≤ (k : Int)) = true := decide_eq_true hf1
            have g2 : decide ((k : Int) < t) = false := decide_eq_false (by omega)
            go_wp2_with fail
            go_at_call 16
            refine (HX.out _ _ Hy100.out.ic).mono ?_
            rintro e W101 ⟨rfl, hb⟩
            have HB101 := Lib.hid (HB100.out.trans (hb.mono HB100.out.size))
            have Hy101 := Lib.hid (Hy100.out.below hb)
            have Hd101 := Lib.hid (Hd100.out.below hb)
            have HBw101 := Lib.hid (HBr100.out.trans (hb.mono HBr100.out.size))
            have Rr101 := Lib.hid ((hb.block _ (lt_of Rr100.out)).trans Rr100.out)
            have Ro101 := Lib.hid ((hb.block _ (lt_of Ro100.out)).trans Ro100.out)
            clear hb HB100 Hy100 y0 y1 y2 y3 Hd100 d0 d1 d2 d3 Rr100 Ro100
            obtain ⟨y0, y1, y2, y3⟩ := Hy101.out.cells
            obtain ⟨d0, d1, d2, d3⟩ := Hd101.out.cells
            go_wp2_with fail
            go_at_call 16
            refine (HY.out _ _ Hd101.out.ic).mono ?_
            rintro e W102 ⟨rfl, hb⟩
            have HB102 := Lib.hid (HB101.out.trans (hb.mono HB101.out.size))
            have Hy102 := Lib.hid (Hy101.out.below hb)
            have Hd102 := Lib.hid (Hd101.out.below hb)
            have HBw102 := Lib.hid (HBw101.out.trans (hb.mono HBw101.out.size))
            have Rr102 := Lib.hid ((hb.block _ (lt_of Rr101.out)).trans Rr101.out)
            have Ro102 := Lib.hid ((hb.block _ (lt_of Ro101.out)).trans Ro101.out)
            clear hb HB101 Hy101 y0 y1 y2 y3 Hd101 d0 d1 d2 d3 Rr101 Ro101
            obtain ⟨y0, y1, y2, y3⟩ := Hy102.out.cells
            obtain ⟨d0, d1, d2, d3⟩ := Hd102.out.cells
            have r0 := cell_of_row _ _ 0 _ _ _ Rr102.out
            have r1 := cell_of_row _ _ 1 _ _ _ Rr102.out
            go_wp2_with fail
            go_roundw
            case rel => exact ⟨k + 1, by omega, by go_num, HBw102.out⟩
            case measure => simp only [intOf]; omega
          case neg =>
            have g1 : decide (f ≤ (k : Int)) = false := decide_eq_false hf1
            go_wp2_with fail
            go_at_call 16
            refine (HX.out _ _ Hy100.out.ic).mono ?_
            rintro e W101 ⟨rfl, hb⟩
            have HB101 := Lib.hid (HB100.out.trans (hb.mono HB100.out.size))
            have Hy101 := Lib.hid (Hy100.out.below hb)
            have Hd101 := Lib.hid (Hd100.out.below hb)
            have HBw101 := Lib.hid (HBr100.out.trans (hb.mono HBr100.out.size))
            have Rr101 := Lib.hid ((hb.block _ (lt_of Rr100.out)).trans Rr100.out)
            have Ro101 := Lib.hid ((hb.block _ (lt_of Ro100.out)).trans Ro100.out)
            clear hb HB100 Hy100 y0 y1 y2 y3 Hd100 d0 d1 d2 d3 Rr100 Ro100
            obtain ⟨y0, y1, y2, y3⟩ := Hy101.out.cells
            obtain ⟨d0, d1, d2, d3⟩ := Hd101.out.cells
            go_wp2_with fail
            go_at_call 16
            refine (HY.out _ _ Hd101.out.ic).mono ?_
            rintro e W102 ⟨rfl, hb⟩
            have HB102 := Lib.hid (HB101.out.trans (hb.mono HB101.out.size))
            have Hy102 := Lib.hid (Hy101.out.below hb)
            have Hd102 := Lib.hid (Hd101.out.below hb)
            have HBw102 := Lib.hid (HBw101.out.trans (hb.mono HBw101.out.size))
            have Rr102 := Lib.hid ((hb.block _ (lt_of Rr101.out)).trans Rr101.out)
            have Ro102 := Lib.hid ((hb.block _ (lt_of Ro101.out)).trans Ro101.out)
            clear hb HB101 Hy101 y0 y1 y2 y3 Hd101 d0 d1 d2 d3 Rr101 Ro101
            obtain ⟨y0, y1, y2, y3⟩ := Hy102.out.cells
            obtain ⟨d0, d1, d2, d3⟩ := Hd102.out.cells
            have r0 := cell_of_row _ _ 0 _ _ _ Rr102.out
            have r1 := cell_of_row _ _ 1 _ _ _ Rr102.out
            go_wp2_with fail
            go_roundw
            case rel => exact ⟨k + 1, by omega, by go_num, HBw102.out⟩
            case measure => simp only [intOf]; omega
      case neg =>
        obtain rfl : k = 256 := by omega
        have p0 := cell_of_row _ _ 0 _ _ _ Ro100.out
        have p1 := cell_of_row _ _ 1 _ _ _ Ro100.out
        have p2 := cell_of_row _ _ 2 _ _ _ Ro100.out
        have p3 := cell_of_row _ _ 3 _ _ _ Ro100.out
        have p4 := cell_of_row _ _ 4 _ _ _ Ro100.out
        go_wp2_with fail
        go_at_call 13
        refine (HAq.out _ _ Hd100.out.ic).mono ?_
        rintro e W101 ⟨vz, rfl, hic, hb, -⟩
        have hic2 := hic
        obtain ⟨svz, pvz, rfl, ⟨Az1, cz1, rfl, -⟩, ⟨Az2, cz2, rfl, -⟩⟩ := hic2
        have hal := (Below.refl W101.heap.size W101).alloc (Nat.le_refl _) (.cells #[.int .i64 z.e, .slice Az1 z.srv.length cz1, .slice Az2 z.pts.length cz2, .int .i64 z.t] 26)
        have hb := hb.trans (hal.mono hb.size)
        have Hz101 := Lib.hid (HC4.made hic 26)
        clear hic hal
        have HB101 := Lib.hid (HB100.out.trans (hb.mono HB100.out.size))
        have Hy101 := Lib.hid (Hy100.out.below hb)
        have Hd101 := Lib.hid (Hd100.out.below hb)
        have HBw101 := Lib.hid (HBr100.out.trans (hb.mono HBr100.out.size))
        have Rr101 := Lib.hid ((hb.block _ (lt_of Rr100.out)).trans Rr100.out)
        have Ro101 := Lib.hid ((hb.block _ (lt_of Ro100.out)).trans Ro100.out)
        clear hb HB100 Hy100 y0 y1 y2 y3 Hd100 d0 d1 d2 d3 Rr100 Ro100
        obtain ⟨y0, y1, y2, y3⟩ := Hy101.out.cells
        obtain ⟨d0, d1, d2, d3⟩ := Hd101.out.cells
        obtain ⟨z0, z1, z2, z3⟩ := Hz101.out.cells
        clear p0 p1 p2 p3 p4
        go_wp2_with fail
        go_at_call 11
        refine (theirs_any Hz101.out.ic (by rw [← HZ.out]; show d.pts.length ≤ _; omega)).mono ?_
        rintro e Wn ⟨vw, rfl, hic, hb⟩
        have HB102 := Lib.hid (HB101.out.trans (hb.mono HB101.out.size))
        have Hy102 := Lib.hid (Hy101.out.below hb)
        have Hd102 := Lib.hid (Hd101.out.below hb)
        have Hz102 := Lib.hid (Hz101.out.below hb)
        have HBw102 := Lib.hid (HBw101.out.trans (hb.mono HBw101.out.size))
        have Rr102 := Lib.hid ((hb.block _ (lt_of Rr101.out)).trans Rr101.out)
        have Ro102 := Lib.hid ((hb.block _ (lt_of Ro101.out)).trans Ro101.out)
        clear hb HB101 Hy101 y0 y1 y2 y3 Hd101 d0 d1 d2 d3 Hz101 z0 z1 z2 z3 Rr101 Ro101
        obtain ⟨y0, y1, y2, y3⟩ := Hy102.out.cells
        obtain ⟨d0, d1, d2, d3⟩ := Hd102.out.cells
        obtain ⟨z0, z1, z2, z3⟩ := Hz102.out.cells
        obtain ⟨svw, pvw, rfl, ⟨Aw1, cw1, rfl, hw1'⟩, ⟨Aw2, cw2, rfl, hw2'⟩⟩ := hic
        have ROW := Lib.hid (heap_alloc_new Wn (.cells #[.int .i64 d.e, .slice Aw1 z.srv.length cw1, .slice Aw2 z.pts.length cw2, .int .i64 z.t] 37))
        have ICW := Lib.hid (show IC Wn (.agg #[.int .i64 d.e, .slice Aw1 z.srv.length cw1, .slice Aw2 z.pts.length cw2, .int .i64 z.t]) d by
          (have e := HZ.out; subst e; exact ⟨_, _, rfl, ⟨Aw1, cw1, rfl, hw1'⟩, ⟨Aw2, cw2, rfl, hw2'⟩⟩))
        clear hw1' hw2'
        have hb := (Below.refl Wn.heap.size Wn).alloc (Nat.le_refl _) (.cells #[.int .i64 d.e, .slice Aw1 z.srv.length cw1, .slice Aw2 z.pts.length cw2, .int .i64 z.t] 37)
        have ICF := Lib.hid (ICW.out.below hb)
        have da := fun (W : World) (h : Below Wn.heap.size Wn W) => (Hd102.out.below h).cells
        obtain ⟨da0, -, -, -⟩ := da _ ((Below.refl Wn.heap.size Wn).alloc (Nat.le_refl _) (.cells #[.int .i64 z.e, .slice Aw1 z.srv.length cw1, .slice Aw2 z.pts.length cw2, .int .i64 z.t] 37))
        clear da
        have hlw : IntKind.i64.wrap ((c.pts.length : Int) + 2) = (c.pts.length : Int) + 2 := IntWalk.i64_in _ (by omega)
        have hle : decide ((d.pts.length : Int) ≤ (c.pts.length : Int) + 2) = true := decide_eq_true (by have := HLEN.out; omega)
        go_wp2_with fail
        generalize Wn.alloc (.cells #[.int .i64 d.e, .slice Aw1 z.srv.length cw1, .slice Aw2 z.pts.length cw2, .int .i64 z.t] 37) = Wf at ROW ICF hb ⊢
        have HBf := Lib.hid (HB102.out.trans (hb.mono HB102.out.size))
        have Hyf := Lib.hid (Hy102.out.below hb)
        have Hdf := Lib.hid (Hd102.out.below hb)
        clear hb y0 y1 y2 y3 d0 d1 d2 d3 da0
        have HH := Lib.hid (show ∀ W, Below Wf.heap.size Wf W → (W.cell? ⟨W6.heap.size, 0, none⟩ = some (.int .i64 d.e) ∧ W.cell? ⟨W6.heap.size, 1, none⟩ = some (.slice Ad1 d.srv.length cd1) ∧ W.cell? ⟨W6.heap.size, 2, none⟩ = some (.slice Ad2 d.pts.length cd2) ∧ W.cell? ⟨W6.heap.size, 3, none⟩ = some (.int .i64 d.t)) ∧ W.cell? ⟨W2.heap.size, 2, none⟩ = some (.slice Ay2 c.pts.length cy2) ∧ (W.cell? ⟨Wn.heap.size, 0, none⟩ = some (.int .i64 d.e) ∧ W.cell? ⟨Wn.heap.size, 1, none⟩ = some (.slice Aw1 z.srv.length cw1) ∧ W.cell? ⟨Wn.heap.size, 2, none⟩ = some (.slice Aw2 z.pts.length cw2) ∧ W.cell? ⟨Wn.heap.size, 3, none⟩ = some (.int .i64 z.t)) from fun W h => by
          have R := (h.block _ (lt_of ROW.out)).trans ROW.out
          exact ⟨(Hdf.out.below h).cells, (Hyf.out.below h).cells.2.2.1, cell_of_row _ _ 0 _ _ _ R, cell_of_row _ _ 1 _ _ _ R, cell_of_row _ _ 2 _ _ _ R, cell_of_row _ _ 3 _ _ _ R⟩)
        have B0 := Lib.hid ((Below.refl Wf.heap.size Wf).drew)
        go_region_held3 (fun w' => (w'.cell? ⟨W6.heap.size, 0, none⟩ = some (.int .i64 d.e) ∧ w'.cell? ⟨W6.heap.size, 1, none⟩ = some (.slice Ad1 d.srv.length cd1) ∧ w'.cell? ⟨W6.heap.size, 2, none⟩ = some (.slice Ad2 d.pts.length cd2) ∧ w'.cell? ⟨W6.heap.size, 3, none⟩ = some (.int .i64 d.t)) ∧ w'.cell? ⟨W2.heap.size, 2, none⟩ = some (.slice Ay2 c.pts.length cy2) ∧ (w'.cell? ⟨Wn.heap.size, 0, none⟩ = some (.int .i64 d.e) ∧ w'.cell? ⟨Wn.heap.size, 1, none⟩ = some (.slice Aw1 z.srv.length cw1) ∧ w'.cell? ⟨Wn.heap.size, 2, none⟩ = some (.slice Aw2 z.pts.length cw2) ∧ w'.cell? ⟨Wn.heap.size, 3, none⟩ = some (.int .i64 z.t)))
          (first | exact HH.out _ B2.out | exact HH.out _ B1.out | exact HH.out _ B0.out | fail)
          (first
            | (go_at_call 11; (with_reducible refine (theirs_any (Hdf.out.below B0.out).ic (by omega)).mono ?_); rintro e W9 ⟨v9, rfl, k1, k2⟩; have I9 := Lib.hid k1; have B1 := Lib.hid (B0.out.trans (k2.mono B0.out.size)); clear k1 k2)
            | (go_at_call 15; (with_reducible refine (same12_any (ICF.out.below B1.out) I9.out (by omega) (by omega)).mono ?_); rintro e W10 ⟨rfl, k2⟩; have B2 := Lib.hid (B1.out.trans (k2.mono B1.out.size)); clear k2)
            | fail)
        clear HH
        have HBz := Lib.hid (HBf.out.trans (B2.out.mono HBf.out.size))
        go_wp2_with fail
        go_ret
        exact ⟨rfl, HW1.out.trans (HBz.out.mono HW1.out.size)⟩
end Go.Proofs.Ythjinpbclfankaa
