/-
  An alarm that is all that a block has: read, and stored whole.
-/
import Derived.Test.YtcanagecdniiiaaAl
import Derived.Laws.Tables
import Derived.Laws.CopyOwn
import Derived.KernelRfl
namespace Go.Proofs.Ytcanagecdniiiaa
open Go.RowKit

/-- The alarm x is all that block b has. -/
def AB (t : TypeId) (w : World) (b : Nat) (x : Al) : Prop := w.heap[b]? = some (.cells x.cells t (0, 0))
theorem AB.fresh (t : TypeId) (w : World) (x : Al) : AB t (w.alloc (.cells x.cells t)) w.heap.size x := heap_alloc_new w _
theorem AB.lt {t : TypeId} {w : World} {b : Nat} {x : Al} (h : AB t w b x) : b < w.heap.size := (Array.getElem?_eq_some_iff.1 h).1
theorem AB.below {t : TypeId} {w w' : World} {b : Nat} {x : Al} (h : AB t w b x) (hb : Below w.heap.size w w') : AB t w' b x := by
  unfold AB; rw [hb.block b h.lt]; exact h
theorem AB.cell {t : TypeId} {w : World} {b : Nat} {x : Al} (h : AB t w b x) (i : Nat) : w.cell? ⟨b, i, none⟩ = x.cells[i]? := by
  unfold World.cell?; simp only [show w.heap[b]? = _ from h]; rfl
theorem AB.all {t : TypeId} {w : World} {b : Nat} {x : Al} (h : AB t w b x) : w.cell? ⟨b, 0, none⟩ = some (.int .i64 x.n) ∧ w.cell? ⟨b, 1, none⟩ = some (.int .i64 x.a) ∧ w.cell? ⟨b, 2, none⟩ = some (.int .i64 x.t) := ⟨h.cell 0, h.cell 1, h.cell 2⟩
theorem AB.free {t : TypeId} {w : World} {b : Nat} {x : Al} (h : AB t w b x) (i : Nat) : w.frozen? ⟨b, i, none⟩ = false := by
  unfold World.frozen?; simp only [show w.heap[b]? = _ from h]; simp

theorem wpList_store_al31 {ops : Array Oper} {rest : List Oper} {o : Oper} {a : Act} {w : World} {Q : Exit → Act → World → Prop} (hgd : o.guard = none) (x y : Operand) (ho : o.op = .store 31 x y)
    (D : Nat) (m m0 : Al) (hx : a.eval x = .pointer (some ⟨D, 0, none⟩)) (hy : a.eval y = m.val) (hD : AB 31 w D m0)
    (h : ∀ wF, AB 31 wF D m → w.grownBy wF (some D) → wpList Try.prog ops Q rest (a.put o.dst undef) wF) : wpList Try.prog ops Q (o :: rest) a w :=
  wpList_store_row hgd 31 x y ho D m.cells hx hy 31 m0.cells hD (by kernel_rfl) rfl (by simp [Al.cells, Value.oneCell'])
    (h _ (setRow_heap w D m0.cells m.cells _ _ hD) (by
      have hb := below_setRow (Below.refl 0 w) (Nat.zero_le D) m.cells
      exact ⟨hb.os, hb.tape, hb.output, hb.size, fun k _ hk => setRow_other w D k _ (fun e => hk (by rw [e]))⟩))

theorem wpList_store_al40 {ops : Array Oper} {rest : List Oper} {o : Oper} {a : Act} {w : World} {Q : Exit → Act → World → Prop} (hgd : o.guard = none) (x y : Operand) (ho : o.op = .store 40 x y)
    (D : Nat) (m m0 : Al) (hx : a.eval x = .pointer (some ⟨D, 0, none⟩)) (hy : a.eval y = m.val) (hD : AB 40 w D m0)
    (h : ∀ wF, AB 40 wF D m → w.grownBy wF (some D) → wpList Try.prog ops Q rest (a.put o.dst undef) wF) : wpList Try.prog ops Q (o :: rest) a w :=
  wpList_store_row hgd 40 x y ho D m.cells hx hy 40 m0.cells hD (by kernel_rfl) rfl (by simp [Al.cells, Value.oneCell'])
    (h _ (setRow_heap w D m0.cells m.cells _ _ hD) (by
      have hb := below_setRow (Below.refl 0 w) (Nat.zero_le D) m.cells
      exact ⟨hb.os, hb.tape, hb.output, hb.size, fun k _ hk => setRow_other w D k _ (fun e => hk (by rw [e]))⟩))
end Go.Proofs.Ytcanagecdniiiaa
