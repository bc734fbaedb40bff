/-
  A config that is stored into a block made ahead of it; what Apply tells is small.
-/
import Derived.Test.YthjinpbclfankaaHc4
namespace Go.Proofs.Ythjinpbclfankaa
open Go.RowKit

theorem apl_few (c : Cf) (o : Od) : ((apl c o).1.srv.length = 0 ∨ 2 ≤ (apl c o).1.srv.length) ∧ (apl c o).1.srv.length ≤ 8 ∧ (apl c o).1.pts.length ≤ 256 := by
  by_cases h : c.ok
  · by_cases h0 : (apl c o).2 = 0
    · obtain ⟨h1, -⟩ := apl_ok h o h0
      exact ⟨.inr h1.2.1, h1.few.1, h1.few.2.1⟩
    · have e : (apl c o).1 = cfz := by
        unfold apl at h0 ⊢
        rw [if_pos h] at h0 ⊢
        by_cases q1 : c.e = 1099511627776
        · rw [if_pos q1]
        · rw [if_neg q1] at h0 ⊢
          by_cases q2 : (change c o).1 = 0
          · rw [if_pos q2] at h0; exact absurd rfl h0
          · rw [if_neg q2]
      rw [e]
      exact ⟨.inl rfl, by decide, by decide⟩
  · have e : (apl c o).1 = cfz := by
      unfold apl
      rw [if_neg h]
    rw [e]
    exact ⟨.inl rfl, by decide, by decide⟩
/-- A config's numbers and parts do not lie in a block that was made for a config. -/
theorem IC.stored {w w' : World} {v : Value} {c : Cf} {D : Nat} {T : TypeId} {a x : Value} (h : IC w v c) (hz : w.heap[D]? = some (.cells #[a, .slice none 0 0, .slice none 0 0, x] T (0, 0))) (h2 : c.srv.length = 0 ∨ 2 ≤ c.srv.length) (hs : w.heap.size ≤ w'.heap.size) (hb : ∀ q, q < w.heap.size → q ≠ D → w'.heap[q]? = w.heap[q]?) : IC w' v c := by
  have z1 : w.cell? ⟨D, 1, none⟩ = some (.slice none 0 0) := cell_of_row _ _ 1 _ _ _ hz
  have z2 : w.cell? ⟨D, 2, none⟩ = some (.slice none 0 0) := cell_of_row _ _ 2 _ _ _ hz
  have z4 : ∀ j, 4 ≤ j → w.cell? ⟨D, j, none⟩ = none := fun j hj => by
    rw [cell_of_row _ _ j _ _ _ hz]
    simp; omega
  have none2 : ∀ (o : Nat) (p q : Int), w.cell? ⟨D, o, none⟩ = some (.int .i64 p) → w.cell? ⟨D, o + 1, none⟩ = some (.int .i64 q) → False := fun o p q h1 h2 => by
    rcases (show o = 0 ∨ o = 1 ∨ o = 2 ∨ 3 ≤ o by omega) with rfl | rfl | rfl | h3
    · rw [z1] at h2; simp at h2
    · rw [z1] at h1; simp at h1
    · rw [z2] at h1; simp at h1
    · rw [z4 (o + 1) (by omega)] at h2; cases h2
  obtain ⟨sv, pv, rfl, ⟨A1, c1, rfl, h1⟩, ⟨A2, c2, rfl, h3⟩⟩ := h
  refine ⟨_, _, rfl, ⟨A1, c1, rfl, fun i y hy => ?_⟩, ⟨A2, c2, rfl, fun i p hp => ?_⟩⟩
  · obtain ⟨g, o, rfl, hg, hc⟩ := h1 i y hy
    refine ⟨g, o, rfl, Nat.lt_of_lt_of_le hg hs, ?_⟩
    have hlt := (List.getElem?_eq_some_iff.1 hy).1
    have hne : g ≠ D := by
      rintro rfl
      obtain ⟨y0, e0⟩ : ∃ y0, c.srv[0]? = some y0 := ⟨_, List.getElem?_eq_getElem (by omega)⟩
      obtain ⟨y1, e1⟩ : ∃ y1, c.srv[1]? = some y1 := ⟨_, List.getElem?_eq_getElem (by omega)⟩
      obtain ⟨g0, o0, f0, -, k0⟩ := h1 0 _ e0
      obtain ⟨g1, o1, f1, -, k1⟩ := h1 1 _ e1
      simp only [Option.some.injEq, Addr.mk.injEq, and_true] at f0 f1
      obtain ⟨rfl, rfl⟩ := f0
      obtain ⟨rfl, rfl⟩ := f1
      rw [Nat.add_zero] at k0
      exact none2 _ _ _ k0 k1
    rw [World.cell?_of_block (hb g hg hne)]
    exact hc
  · obtain ⟨g, o, rfl, hg, k0, k1, k2, k3⟩ := h3 i p hp
    have hne : g ≠ D := by
      rintro rfl
      exact none2 _ _ _ k0 k1
    have hB := hb g hg hne
    exact ⟨g, o, rfl, Nat.lt_of_lt_of_le hg hs, (World.cell?_of_block hB).trans k0, (World.cell?_of_block hB).trans k1, (World.cell?_of_block hB).trans k2, (World.cell?_of_block hB).trans k3⟩
theorem HC4.of_row {w : World} {D : Nat} {c : Cf} {sv pv : Value} {T : TypeId} (h : w.heap[D]? = some (.cells #[.int .i64 c.e, sv, pv, .int .i64 c.t] T (0, 0))) (hic : IC w (.agg #[.int .i64 c.e, sv, pv, .int .i64 c.t]) c) : HC4 w D c sv pv :=
  ⟨lt_of h, ⟨cell_of_row _ _ 0 _ _ _ h, cell_of_row _ _ 1 _ _ _ h, cell_of_row _ _ 2 _ _ _ h, cell_of_row _ _ 3 _ _ _ h⟩, hic⟩
end Go.Proofs.Ythjinpbclfankaa
