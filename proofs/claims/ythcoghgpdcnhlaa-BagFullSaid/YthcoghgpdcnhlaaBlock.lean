/-
  A message that is all that a block has: stored whole.
-/
import Derived.Test.YthcoghgpdcnhlaaTake
import Derived.Laws.Tables
import Derived.Laws.CopyOwn
namespace Go.Proofs.Ythcoghgpdcnhlaa
open Go.RowKit

theorem cells_at {w : World} {b : Nat} {cs : Array Value} {t : TypeId} {fr : Nat × Nat} (h : w.heap[b]? = some (.cells cs t fr)) (i : Nat) : w.cell? ⟨b, i, none⟩ = cs[i]? := by
  unfold World.cell?; simp only [h]; rfl
/-- The message m is all that block b has. -/
def MB (w : World) (b : Nat) (m : M) : Prop := w.heap[b]? = some (.cells m.cells 31 (0, 0))
theorem MB.cell {w : World} {b : Nat} {m : M} (h : MB w b m) (i : Nat) : w.cell? ⟨b, i, none⟩ = m.cells[i]? := cells_at h i
theorem MB.mat {w : World} {b : Nat} {m : M} (h : MB w b m) : Mat w b m := by
  refine ⟨fun i hi => ?_, h.cell 7⟩
  rw [h.cell i]
  match i, hi with
  | 0, _ => rfl
  | 1, _ => rfl
  | 2, _ => rfl
  | 3, _ => rfl
  | 4, _ => rfl
  | 5, _ => rfl
  | 6, _ => rfl
theorem MB.lt {w : World} {b : Nat} {m : M} (h : MB w b m) : b < w.heap.size := h.mat.lt
theorem MB.free {w : World} {b : Nat} {m : M} (h : MB w b m) (i : Nat) : w.frozen? ⟨b, i, none⟩ = false := by
  unfold World.frozen?; simp only [show w.heap[b]? = _ from h]; simp
theorem MB.fresh (w : World) (m : M) : MB (w.alloc (.cells m.cells 31)) w.heap.size m := heap_alloc_new w _
theorem MB.fr {w w' : World} {b c : Nat} {row : Option Nat} {m : M} (h : MB w b m) (hf : Fr c row w w') (h1 : b ≠ c) (h2 : some b ≠ row) : MB w' b m := by
  unfold MB; rw [hf.block b h.lt h1 h2]; exact h
theorem MB.below {w w' : World} {b : Nat} {m : M} (h : MB w b m) (hb : Below w.heap.size w w') : MB w' b m := by
  unfold MB; rw [hb.block b h.lt]; exact h
/-- One number of a message is another one. -/
def M.set (m : M) : Nat → Int → M
  | 0, v => { m with kind := v }
  | 1, v => { m with src := v }
  | 2, v => { m with dst := v }
  | 3, v => { m with epoch := v }
  | 4, v => { m with seq := v }
  | 5, v => { m with off := v }
  | _, v => { m with len := v }
theorem heap_setCell {w : World} {b : Nat} {cs : Array Value} {t : TypeId} {fr : Nat × Nat} (h : w.heap[b]? = some (.cells cs t fr)) (i : Nat) (v : Value) : (w.setCell ⟨b, i, none⟩ v).heap[b]? = some (.cells (cs.setIfInBounds i v) t fr) := by
  unfold World.setCell
  simp [Array.getElem?_modify, h]
theorem MB.set {w : World} {b : Nat} {m : M} (h : MB w b m) (i : Nat) (hi : i < 7) (v : Int) : MB (w.setCell ⟨b, i, none⟩ (.int .i64 v)) b (m.set i v) := by
  have := heap_setCell h i (.int .i64 v)
  unfold MB
  rw [this]
  match i, hi with
  | 0, _ => rfl
  | 1, _ => rfl
  | 2, _ => rfl
  | 3, _ => rfl
  | 4, _ => rfl
  | 5, _ => rfl
  | 6, _ => rfl
theorem MB.data {w : World} {b : Nat} {m : M} (h : MB w b m) (d : ByteArray) : MB (w.setCell ⟨b, 7, none⟩ (.string d)) b { m with data := d } := by
  have := heap_setCell h 7 (.string d)
  unfold MB
  rw [this]; rfl
theorem MB.eight {w : World} {D : Nat} {m0 : M} (h : MB w D m0) (m : M) : MB ((((((((w.setCell ⟨D, 0, none⟩ (.int .i64 m.kind)).setCell ⟨D, 1, none⟩ (.int .i64 m.src)).setCell ⟨D, 2, none⟩ (.int .i64 m.dst)).setCell ⟨D, 3, none⟩ (.int .i64 m.epoch)).setCell ⟨D, 4, none⟩ (.int .i64 m.seq)).setCell ⟨D, 5, none⟩ (.int .i64 m.off)).setCell ⟨D, 6, none⟩ (.int .i64 m.len)).setCell ⟨D, 7, none⟩ (.string m.data)) D m := by
  have h1 : MB _ D ⟨m.kind, m0.src, m0.dst, m0.epoch, m0.seq, m0.off, m0.len, m0.data⟩ := h.set 0 (by omega) m.kind
  have h2 : MB _ D ⟨m.kind, m.src, m0.dst, m0.epoch, m0.seq, m0.off, m0.len, m0.data⟩ := h1.set 1 (by omega) m.src
  have h3 : MB _ D ⟨m.kind, m.src, m.dst, m0.epoch, m0.seq, m0.off, m0.len, m0.data⟩ := h2.set 2 (by omega) m.dst
  have h4 : MB _ D ⟨m.kind, m.src, m.dst, m.epoch, m0.seq, m0.off, m0.len, m0.data⟩ := h3.set 3 (by omega) m.epoch
  have h5 : MB _ D ⟨m.kind, m.src, m.dst, m.epoch, m.seq, m0.off, m0.len, m0.data⟩ := h4.set 4 (by omega) m.seq
  have h6 : MB _ D ⟨m.kind, m.src, m.dst, m.epoch, m.seq, m.off, m0.len, m0.data⟩ := h5.set 5 (by omega) m.off
  have h7 : MB _ D ⟨m.kind, m.src, m.dst, m.epoch, m.seq, m.off, m.len, m0.data⟩ := h6.set 6 (by omega) m.len
  exact h7.data m.data
theorem below_eight {B : Nat} {w0 w : World} {D : Nat} (h : Below B w0 w) (hD : B ≤ D) (m : M) : Below B w0 ((((((((w.setCell ⟨D, 0, none⟩ (.int .i64 m.kind)).setCell ⟨D, 1, none⟩ (.int .i64 m.src)).setCell ⟨D, 2, none⟩ (.int .i64 m.dst)).setCell ⟨D, 3, none⟩ (.int .i64 m.epoch)).setCell ⟨D, 4, none⟩ (.int .i64 m.seq)).setCell ⟨D, 5, none⟩ (.int .i64 m.off)).setCell ⟨D, 6, none⟩ (.int .i64 m.len)).setCell ⟨D, 7, none⟩ (.string m.data)) :=
  (((((((h.setCell hD _).setCell hD _).setCell hD _).setCell hD _).setCell hD _).setCell hD _).setCell hD _).setCell hD _

/-- A message is stored whole: only its block turns. -/
theorem wpList_store_msg {ops : Array Oper} {rest : List Oper} {o : Oper} {a : Act} {w : World} {Q : Exit → Act → World → Prop} (hgd : o.guard = none) (x y : Operand) (ho : o.op = .store 31 x y)
    (D : Nat) (m m0 : M) (hx : a.eval x = .pointer (some ⟨D, 0, none⟩)) (hy : a.eval y = m.val) (hD : MB w D m0)
    (h : ∀ wF, MB wF D m → Fr D none w wF → wF.heap.size = w.heap.size → wpList Try.prog ops Q rest (a.put o.dst undef) wF) : wpList Try.prog ops Q (o :: rest) a w :=
  wpList_store_row hgd 31 x y ho D m.cells hx hy 31 m0.cells hD (by kernel_rfl) rfl (by simp [M.cells, Value.oneCell'])
    (h _ (setRow_heap w D m0.cells m.cells _ _ hD) (by
      have hb := below_setRow (Below.refl 0 w) (Nat.zero_le D) m.cells
      exact ⟨hb.os, hb.tape, hb.output, hb.size, fun k _ hk _ => setRow_other w D k _ hk⟩) (by simp))
theorem Fr.eight {w0 w : World} {D c : Nat} {row : Option Nat} (h : Fr c row w0 w) (hD : w0.heap.size ≤ D) (m : M) : Fr c row w0 ((((((((w.setCell ⟨D, 0, none⟩ (.int .i64 m.kind)).setCell ⟨D, 1, none⟩ (.int .i64 m.src)).setCell ⟨D, 2, none⟩ (.int .i64 m.dst)).setCell ⟨D, 3, none⟩ (.int .i64 m.epoch)).setCell ⟨D, 4, none⟩ (.int .i64 m.seq)).setCell ⟨D, 5, none⟩ (.int .i64 m.off)).setCell ⟨D, 6, none⟩ (.int .i64 m.len)).setCell ⟨D, 7, none⟩ (.string m.data)) := by
  have hb := below_eight (Below.refl D w) (Nat.le_refl D) m
  exact ⟨hb.os.trans h.os, hb.tape.trans h.tape, hb.output.trans h.output, Nat.le_trans h.size hb.size, fun k hk h1 h2 => (hb.block k (by omega)).trans (h.block k hk h1 h2)⟩
end Go.Proofs.Ythcoghgpdcnhlaa
