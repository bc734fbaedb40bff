/-
  A config in a block of its own, while others come.
-/
import Derived.Test.YthjinpbclfankaaAf2
import Derived.Test.YthjinpbclfankaaThe
import Derived.Test.YthjinpbclfankaaRc4
import Derived.Test.YthjinpbclfankaaRc7
namespace Go.Proofs.Ythjinpbclfankaa
open Go.RowKit

def HC4 (w : World) (D : Nat) (c : Cf) (sv pv : Value) : Prop := D < w.heap.size ∧ (w.cell? ⟨D, 0, none⟩ = some (.int .i64 c.e) ∧ w.cell? ⟨D, 1, none⟩ = some sv ∧ w.cell? ⟨D, 2, none⟩ = some pv ∧ w.cell? ⟨D, 3, none⟩ = some (.int .i64 c.t)) ∧ IC w (.agg #[.int .i64 c.e, sv, pv, .int .i64 c.t]) c
theorem HC4.below {w w' : World} {D : Nat} {c : Cf} {sv pv : Value} (h : HC4 w D c sv pv) (hb : Below w.heap.size w w') : HC4 w' D c sv pv := by
  obtain ⟨h1, ⟨a, b, d, e⟩, h2⟩ := h
  exact ⟨Nat.lt_of_lt_of_le h1 hb.size, ⟨(hb.cell (p := ⟨D, 0, none⟩) h1).trans a, (hb.cell (p := ⟨D, 1, none⟩) h1).trans b, (hb.cell (p := ⟨D, 2, none⟩) h1).trans d, (hb.cell (p := ⟨D, 3, none⟩) h1).trans e⟩, h2.below hb⟩
theorem HC4.made {w : World} {c : Cf} {sv pv : Value} (h : IC w (.agg #[.int .i64 c.e, sv, pv, .int .i64 c.t]) c) (t : TypeId) : HC4 (w.alloc (.cells #[.int .i64 c.e, sv, pv, .int .i64 c.t] t)) w.heap.size c sv pv :=
  ⟨by simp, cells4 w _ rfl _ _ _ _ t, h.below ((Below.refl _ _).alloc (Nat.le_refl _) _)⟩
theorem HC4.cells {w : World} {D : Nat} {c : Cf} {sv pv : Value} (h : HC4 w D c sv pv) : w.cell? ⟨D, 0, none⟩ = some (.int .i64 c.e) ∧ w.cell? ⟨D, 1, none⟩ = some sv ∧ w.cell? ⟨D, 2, none⟩ = some pv ∧ w.cell? ⟨D, 3, none⟩ = some (.int .i64 c.t) := h.2.1
theorem HC4.ic {w : World} {D : Nat} {c : Cf} {sv pv : Value} (h : HC4 w D c sv pv) : IC w (.agg #[.int .i64 c.e, sv, pv, .int .i64 c.t]) c := h.2.2
theorem HC4.srv {w : World} {D : Nat} {c : Cf} {sv pv : Value} (h : HC4 w D c sv pv) : InI w sv c.srv := by
  obtain ⟨s, p, e, h1, -⟩ := h.2.2
  simp only [Value.agg.injEq, Array.mk.injEq, List.cons.injEq, and_true] at e
  obtain ⟨-, rfl, -, -⟩ := e
  exact h1
theorem tab_ok {c : Cf} (h : c.ok) (b : Int) : 0 ≤ tab c.t b ∧ tab c.t b < c.t := by
  have h1 := h.1.2.2.1
  unfold tab
  by_cases k : c.t < 1 ∨ b < 1
  · rw [if_pos k]; omega
  · rw [if_neg k]; exact ⟨Int.emod_nonneg _ (by omega), Int.emod_lt_of_pos _ (by omega)⟩
end Go.Proofs.Ythjinpbclfankaa
