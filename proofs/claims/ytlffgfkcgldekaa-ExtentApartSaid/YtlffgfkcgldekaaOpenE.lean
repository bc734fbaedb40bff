/-
  Lists of calls, a range, numbers that came in, opened to their cells.
-/
import Derived.Test.YtlffgfkcgldekaaRows
import Derived.Test.YtlffgfkcgldekaaStep
import Derived.Deep.Slices
import Derived.Deep.Fields
import Derived.Carry
import Derived.ProofKit
import Derived.Lib.SmallJoins
namespace Go.Proofs.Ytlffgfkcgldekaa
open Go.ChangeShapes Go.WideShapes Go.RowKit Go.Deep

theorem laidOutK : laidOutB Try.prog = true := by kernel_rfl
theorem ownK : ownKnob Try.prog.godebug = none := by kernel_rfl
theorem wf_u8 {x : Int} (h : (Lit.int .u8 x).wf = true) : ∃ n : Nat, x = (n : Int) ∧ n < 256 := by
  simp only [Lit.wf, Bool.and_eq_true, decide_eq_true_eq] at h
  have e1 : IntKind.u8.min = 0 := by decide
  have e2 : IntKind.u8.max = 255 := by decide
  rw [e1, e2] at h
  exact ⟨x.toNat, by omega, by omega⟩

/-- A range's cells, as a reading finds them. -/
theorem rg_cells {H : Type} {enc : TypeId × Value → H} {w : World} {base n : Nat} {spare : Nat → Bool} {held : Bool} {cs : List Value} {x : DataW H × List MemPlace} (h : DataW.trod enc Try.prog w base spare held n 30 cs = some x) : ∃ r : Rg, cs = r.cells.toList := by
  obtain ⟨ys, n', _, _, hlen, hyl, hf⟩ := DataW.trod_struct Try.underlying30 h
  have hlen : cs.length = 2 := hlen.trans (by kernel_rfl)
  match cs, hlen with
  | [c0, c1], _ =>
    have hy : ∀ j, j < 2 → ∃ y, ys[j]? = some y := fun j hj => ⟨_, List.getElem?_eq_getElem (by rw [hyl]; exact hj)⟩
    obtain ⟨y0, g0⟩ := hy 0 (by omega)
    obtain ⟨y1, g1⟩ := hy 1 (by omega)
    have t0 : DataW.trod enc Try.prog w base spare held n' 3 (([c0, c1].drop 0).take (Try.prog.cellsOf 3)) = some y0 := (hf 0 _ rfl).trans g0
    have t1 : DataW.trod enc Try.prog w base spare held n' 3 (([c0, c1].drop 1).take (Try.prog.cellsOf 3)) = some y1 := (hf 1 _ rfl).trans g1
    have z : Try.prog.cellsOf 3 = 1 := by kernel_rfl
    simp only [z, List.drop_succ_cons, List.drop_zero, List.take_succ_cons, List.take_zero] at t0 t1
    obtain ⟨q0, e0, -, -⟩ := DataW.trod_int Try.underlying3 t0
    obtain ⟨q1, e1, -, -⟩ := DataW.trod_int Try.underlying3 t1
    simp only [List.cons.injEq, and_true] at e0 e1
    subst e0 e1
    exact ⟨⟨q0, q1⟩, rfl⟩
/-- A call's cells, as a reading finds them. -/
theorem step_cells {H : Type} {enc : TypeId × Value → H} {w : World} {base n : Nat} {spare : Nat → Bool} {held : Bool} {cs : List Value} {x : DataW H × List MemPlace} (h : DataW.trod enc Try.prog w base spare held n 32 cs = some x) : ∃ o : Stp, cs = o.cells.toList := by
  obtain ⟨ys, n', _, _, hlen, hyl, hf⟩ := DataW.trod_struct Try.underlying32 h
  have hlen : cs.length = 4 := hlen.trans (by kernel_rfl)
  match cs, hlen with
  | [c0, c1, c2, c3], _ =>
    have hy : ∀ j, j < 3 → ∃ y, ys[j]? = some y := fun j hj => ⟨_, List.getElem?_eq_getElem (by rw [hyl]; exact hj)⟩
    obtain ⟨y0, g0⟩ := hy 0 (by omega)
    obtain ⟨y1, g1⟩ := hy 1 (by omega)
    obtain ⟨y2, g2⟩ := hy 2 (by omega)
    have t0 : DataW.trod enc Try.prog w base spare held n' 3 (([c0, c1, c2, c3].drop 0).take (Try.prog.cellsOf 3)) = some y0 := (hf 0 _ rfl).trans g0
    have t1 : DataW.trod enc Try.prog w base spare held n' 3 (([c0, c1, c2, c3].drop 1).take (Try.prog.cellsOf 3)) = some y1 := (hf 1 _ rfl).trans g1
    have t2 : DataW.trod enc Try.prog w base spare held n' 30 (([c0, c1, c2, c3].drop 2).take (Try.prog.cellsOf 30)) = some y2 := (hf 2 _ rfl).trans g2
    have z : Try.prog.cellsOf 3 = 1 := by kernel_rfl
    have zm : Try.prog.cellsOf 30 = 2 := by kernel_rfl
    simp only [z, zm, List.drop_succ_cons, List.drop_zero, List.take_succ_cons, List.take_zero] at t0 t1 t2
    obtain ⟨q0, e0, -, -⟩ := DataW.trod_int Try.underlying3 t0
    obtain ⟨q1, e1, -, -⟩ := DataW.trod_int Try.underlying3 t1
    obtain ⟨m, e2⟩ := rg_cells t2
    simp only [List.cons.injEq, and_true] at e0 e1 e2
    subst e0 e1
    obtain ⟨rfl, rfl⟩ := e2
    exact ⟨⟨q0, q1, m⟩, rfl⟩

/-- The list of steps that an argument is. -/
theorem open_steps {H : Type} {enc : TypeId × Value → H} {W : World} {held : Bool} {spare : Nat → Bool} {v : Value} {d : DataW H} {p : List MemPlace} (hv : ∃ a len cap, v = .slice a len cap) (h : DataW.Trod enc Try.prog W 0 spare held 22 v d p) :
    ∃ A n c st, v = .slice A n c ∧ n ≤ 9223372036854775807 ∧ Steps W A n st := by
  obtain ⟨a0, len, cap, rfl⟩ := hv
  obtain ⟨fuel, hf⟩ := h
  have hf' : DataW.trod enc Try.prog W 0 spare held fuel 22 [.slice a0 len cap] = some (d, p) := by simpa [Value.cells] using hf
  have zc : Try.prog.cellsOf 32 = 4 := by kernel_rfl
  rcases open_slice Try.underlying22 hf' with ⟨hc, _⟩ | ⟨a, len', cap', m, n, D, Pl, hcs, _, hl, hm, hmm, _, hi⟩
  · simp only [List.cons.injEq, Value.slice.injEq, and_true] at hc
    obtain ⟨rfl, rfl, rfl⟩ := hc
    exact ⟨none, 0, 0, fun _ => ⟨0, 0, ⟨0, 0⟩⟩, rfl, by omega, fun i hi => by omega⟩
  · simp only [List.cons.injEq, Value.slice.injEq, and_true] at hcs
    obtain ⟨rfl, rfl, rfl⟩ := hcs
    have hlm : len ≤ m := by rw [hmm]; split <;> omega
    have key : ∀ i, ∃ o : Stp, i < len → ∃ b off, some a = some ⟨b, off, none⟩ ∧ SAt W b (off + i * 4) o := by
      intro i
      by_cases hlt : i < len
      · obtain ⟨cs', hc, ht'⟩ := hi i (by omega)
        obtain ⟨o, ho⟩ := step_cells ht'
        rw [zc] at hc
        obtain ⟨_, hcl, hat⟩ := World.cells?_some hc
        subst ho
        obtain ⟨b, off, spot⟩ := a
        have hspot : spot = none := by
          obtain ⟨cs0, hc0, _⟩ := hi 0 (by omega)
          rw [zc] at hc0
          obtain ⟨_, hcl0, hat0⟩ := World.cells?_some hc0
          have h0 := (hat0 0 (by omega)).trans (List.getElem?_eq_getElem (by omega))
          simpa [Addr.add] using World.cell?_spot h0
        subst hspot
        refine ⟨o, fun _ => ⟨b, off, rfl, ?_⟩⟩
        have hx : ∀ j, j < 4 → W.cell? ⟨b, off + i * 4 + j, none⟩ = o.cells.toList[j]? := fun j hj => by
          have := hat j hj
          rw [Go.WideShapes.add_plain, Go.WideShapes.add_plain] at this
          exact this
        exact ⟨hx 0 (by omega), hx 1 (by omega), hx 2 (by omega), hx 3 (by omega)⟩
      · exact ⟨⟨0, 0, ⟨0, 0⟩⟩, fun h => absurd h hlt⟩
    obtain ⟨f, hf⟩ := Classical.skolem.1 key
    exact ⟨some a, len, cap, f, rfl, by unfold maxLen at hm; omega, fun i hi => hf i hi⟩

/-- A range that an argument is. -/
theorem open_rg {H : Type} {enc : TypeId × Value → H} {W : World} {base b0 : Nat} {spare : Nat → Bool} {held : Bool} {r : Reach} {v : Value} {d : DataW H} {p : List MemPlace} (hv : Value.okWide Try.prog W r b0 30 v) (h : DataW.Trod enc Try.prog W base spare held 30 v d p) : ∃ q : Rg, v = q.val := by
  obtain ⟨cs, rfl, -⟩ := okWide_struct Try.underlying30 hv
  obtain ⟨fuel, hf⟩ := h
  obtain ⟨m, hm⟩ := rg_cells (by simpa [Value.cells] using hf)
  exact ⟨m, by rw [show cs = m.cells from Array.toList_inj.1 hm]⟩
end Go.Proofs.Ytlffgfkcgldekaa
