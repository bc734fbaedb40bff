/-
  The queue's add (package bag), by a contract.
-/
import Derived.Test.YthcoghgpdcnhlaaQueue
namespace Go.Proofs.Ythcoghgpdcnhlaa
open Go.RowKit

set_option maxRecDepth 100000 in
set_option maxHeartbeats 3200000 in
theorem add_any (b : Nat) (row : Option Nat) (l : List M) (m : M) (w : World) (hB : Bg w b row l) (hl : l.length ≤ 1000) :
    Calls Try.prog 38 #[.pointer (some ⟨b, 0, none⟩), m.val] w fun e w' => e = .returned (.tuple #[]) ∧ ∃ row', Bg w' b row' (l ++ [m]) ∧ RowOk row row' w ∧ Fr b row w w' := by
  have hbl := hB.lt
  obtain ⟨s, hs, hsf, hown, hrow⟩ := hB
  obtain ⟨i0, hi0, hz0, hz1, hz2⟩ := info_parts infoMsg
  have hne : s.ownBlock ≠ some b := fun h => by have := (hown.lt h).1; omega
  have HO := Lib.hid hown
  have HR := Lib.hid hrow
  have HF := Lib.hid hsf
  have HS := Lib.hid hs
  clear hown hrow hsf
  go_enter Try.func38, Try.ntmps38
  go_wp2_with fail
  have hx : (w.alloc (.cells m.cells 31)).heap.size = w.heap.size + 1 := by simp
  have hnews : ∀ j u, (flat [m])[j]? = some u → (((w.alloc (.cells m.cells 31)).drew).alloc (.cells m.cells 31)).cell? ((⟨w.heap.size + 1, 0, none⟩ : Addr).add j) = some u := fun j u hu => by
    rw [flat_one] at hu
    have := World.news_of_block (w := ((w.alloc (.cells m.cells 31)).drew).alloc (.cells m.cells 31)) (B := w.heap.size + 1) (cs := m.cells) (t := 31) (fr := (0, 0)) (by rw [← hx]; exact heap_alloc_new ((w.alloc (.cells m.cells 31)).drew) _) j u hu
    exact this
  have hB1 : Below w.heap.size w (((w.alloc (.cells m.cells 31)).drew).alloc (.cells m.cells 31)) := (((Below.refl _ _).alloc (Nat.le_refl _) _).drew).alloc (by simp) _
  have HB1 := Lib.hid hB1
  have HN := Lib.hid hnews
  have HO1 := Lib.hid (HO.out.below hB1)
  have HF1 := Lib.hid ((hB1.frozen (p := ⟨b, 0, none⟩) hbl).trans HF.out)
  have HC1 := Lib.hid ((hB1.cell (p := ⟨b, 0, none⟩) hbl).trans hs)
  clear hnews hB1 hx
  go_region_law
    ((refine step_append_lies _ (by rfl) _ _ _ (by rfl) (b + 1) 31 i0 _ 8 72 Try.underlying27 hi0 hz0 hz1 hz2 rfl (by omega) s l.length (flat l) (by rfl) HO1.out
        ⟨w.heap.size + 1, 0, none⟩ 1 1 (flat [m]) (by rfl) (by simp [flat]) HN.out (flat_oneCell _)
        (by omega) (by unfold maxLen; omega) (by omega) (by simp; omega) (w.heap.size + 2) (by simp) ?_; intro g cap w2 hown2 hgrow hat hlt; (have hf2 : w2.frozen? ⟨b, 0, none⟩ = false := by rw [hgrow.frozen_far _ (by simp; omega) (Ne.symm hne)]; exact HF1.out); (have hc2 : w2.cell? ⟨b, 0, none⟩ = some s := by rw [hgrow.cell_far _ (by simp; omega) (Ne.symm hne)]; exact HC1.out)))
  all_goals
    go_wp2
    go_end0
    refine ⟨rfl, some g, ?_, ?_, ?_⟩
    · have := Bg.stored (v := .slice (some ⟨g, 0, none⟩) (l.length + 1) cap) (l := l ++ [m]) hc2 hf2 (by unfold Owns; rw [flat_append]; simpa using hown2)
      exact this
    · rcases hat with h | h
      · exact .inl (by rw [← h]; exact HR.out)
      · exact .inr (.inr ⟨g, rfl, by omega⟩)
    · exact Fr.set (Fr.grown (Fr.of_below HB1.out) (HR.out ▸ hgrow))
end Go.Proofs.Ythcoghgpdcnhlaa
