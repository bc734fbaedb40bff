/-
  A block that is an argument, opened to its cells; numbers that came in.
-/
import Derived.Test.YtacdbfaoeioflaaGreatDoorDoorTab
import Derived.Test.YtacdbfaoeioflaaGreatDoorMap
import Derived.Deep.Slices
import Derived.Deep.Fields
import Derived.Carry
import Derived.ProofKit
import Derived.Lib.SmallJoins
namespace Go.Proofs.YtacdbfaoeioflaaGreatDoor
open Go.ChangeShapes Go.WideShapes Go.RowKit Go.Deep

theorem laidOutK : laidOutB Tryz.prog = true := by kernel_rfl
theorem wf_u64 {x : Int} (h : (Lit.int .u64 x).wf = true) : ∃ n : Nat, x = (n : Int) ∧ n < 18446744073709551616 := by
  simp only [Lit.wf, Bool.and_eq_true, decide_eq_true_eq] at h
  have e1 : IntKind.u64.min = 0 := by decide
  have e2 : IntKind.u64.max = 18446744073709551615 := by decide
  rw [e1, e2] at h
  exact ⟨x.toNat, by omega, by omega⟩
theorem wf_u8 {x : Int} (h : (Lit.int .u8 x).wf = true) : ∃ n : Nat, x = (n : Int) ∧ n < 256 := by
  simp only [Lit.wf, Bool.and_eq_true, decide_eq_true_eq] at h
  have e1 : IntKind.u8.min = 0 := by decide
  have e2 : IntKind.u8.max = 255 := by decide
  rw [e1, e2] at h
  exact ⟨x.toNat, by omega, by omega⟩
theorem wf_i64 {x : Int} (h : (Lit.int .i64 x).wf = true) : x < 9223372036854775808 := by
  simp only [Lit.wf, Bool.and_eq_true, decide_eq_true_eq] at h
  have e2 : IntKind.i64.max = 9223372036854775807 := by decide
  rw [e2] at h
  omega

set_option maxRecDepth 100000 in
/-- A block's cells, as a reading finds them. -/
theorem bk_cells {H : Type} {enc : TypeId × Value → H} {w : World} {base n : Nat} {spare : Nat → Bool} {held : Bool} {cs : List Value} {x : DataW H × List MemPlace} (h : DataW.trod enc Tryz.prog w base spare held n 37 cs = some x) :
    ∃ b : Bk, cs = b.cells.toList ∧ i64 b.id ∧ b.data.size ≤ 9223372036854775807 := by
  obtain ⟨ys, n', _, _, hlen, hyl, hf⟩ := DataW.trod_struct Tryz.underlying37 h
  have hlen : cs.length = 3 := hlen.trans (by kernel_rfl)
  match cs, hlen with
  | [c0, c1, c2], _ =>
    have hy : ∀ j, j < 3 → ∃ y, ys[j]? = some y := fun j hj => ⟨_, List.getElem?_eq_getElem (by rw [hyl]; exact hj)⟩
    obtain ⟨y0, g0⟩ := hy 0 (by omega)
    obtain ⟨y1, g1⟩ := hy 1 (by omega)
    obtain ⟨y2, g2⟩ := hy 2 (by omega)
    have t0 : DataW.trod enc Tryz.prog w base spare held n' 3 (([c0, c1, c2].drop 0).take (Tryz.prog.cellsOf 3)) = some y0 := (hf 0 _ rfl).trans g0
    have t1 : DataW.trod enc Tryz.prog w base spare held n' 3 (([c0, c1, c2].drop 1).take (Tryz.prog.cellsOf 3)) = some y1 := (hf 1 _ rfl).trans g1
    have t2 : DataW.trod enc Tryz.prog w base spare held n' 9 (([c0, c1, c2].drop 2).take (Tryz.prog.cellsOf 9)) = some y2 := (hf 2 _ rfl).trans g2
    have z : Tryz.prog.cellsOf 3 = 1 := by kernel_rfl
    have zs : Tryz.prog.cellsOf 9 = 1 := by kernel_rfl
    simp only [z, zs, List.drop_succ_cons, List.drop_zero, List.take_succ_cons, List.take_zero] at t0 t1 t2
    obtain ⟨q0, e0, -, w0⟩ := DataW.trod_int Tryz.underlying3 t0
    obtain ⟨q1, e1, -, -⟩ := DataW.trod_int Tryz.underlying3 t1
    obtain ⟨q2, e2, -, w2⟩ := DataW.trod_string Tryz.underlying9 t2
    simp only [List.cons.injEq, and_true] at e0 e1 e2
    subst e0 e1 e2
    exact ⟨⟨q0, q1, q2⟩, rfl, w0, by unfold maxLen at w2; show q2.size ≤ _; omega⟩
set_option maxRecDepth 100000 in
/-- A block that an argument is. -/
theorem open_bk {H : Type} {enc : TypeId × Value → H} {W : World} {base b0 : Nat} {spare : Nat → Bool} {held : Bool} {r : Reach} {v : Value} {d : DataW H} {p : List MemPlace} (hv : Value.okWide Tryz.prog W r b0 37 v) (h : DataW.Trod enc Tryz.prog W base spare held 37 v d p) : ∃ q : Bk, v = q.val ∧ i64 q.id ∧ q.data.size ≤ 9223372036854775807 := by
  obtain ⟨cs, rfl, -⟩ := okWide_struct Tryz.underlying37 hv
  obtain ⟨fuel, hf⟩ := h
  obtain ⟨m, hm, h1, h2⟩ := bk_cells (by simpa [Value.cells] using hf)
  exact ⟨m, by rw [show cs = m.cells from Array.toList_inj.1 hm], h1, h2⟩
end Go.Proofs.YtacdbfaoeioflaaGreatDoor
