/-
  A new bag beside what there is: where the laws of layer 4 start.
-/
import Derived.Test.YthcoghgpdcnhlaaSteps
import Derived.Deep.RegionWith
namespace Go.Proofs.Ythcoghgpdcnhlaa
open Go.RowKit

/-- A new bag beside what there is. -/
theorem Two.start {w1 : World} {B1 : Nat} {t : TypeId} (h : Bg w1 B1 none []) : Two (w1.alloc (.cells #[.slice none 0 0] t)) B1 none [] w1.heap.size none [] := by
  have hl := h.lt
  exact ⟨h.below ((Below.refl _ _).alloc (Nat.le_refl _) _), ⟨.slice none 0 0, by simp, by simp, Owns.nil _ _, rfl⟩, by omega, by simp, by simp, by simp⟩
theorem has_nil (i : Int) : ¬ has [] i := by unfold has; simp
/-- A new bag has none. -/
theorem take_new (b : Nat) (row : Option Nat) (w : World) (hB : Bg w b row []) :
    Calls Try.prog 11 #[.pointer (some ⟨b, 0, none⟩), .int .i64 0] w fun e w' => e = .returned (.tuple #[M.zero.val, .int .i64 3]) ∧ Fr b row w w' := by
  refine (take_no b row [] 0 w hB (has_nil 0)).mono ?_
  rintro e w' ⟨rfl, r, -, -, h⟩
  exact ⟨rfl, h⟩
/-- A bag that was made just now leaves all else as it is. -/
theorem Fr.new_below {w w1 w2 : World} {b : Nat} {row : Option Nat} (hb : Below w.heap.size w w1) (hf : Fr b row w1 w2) (h1 : w.heap.size ≤ b) (h2 : row = none) : Below w.heap.size w w2 := by
  subst h2
  exact ⟨hf.os.trans hb.os, hf.tape.trans hb.tape, hf.output.trans hb.output, Nat.le_trans hb.size hf.size, fun k hk => (hf.block k (Nat.lt_of_lt_of_le hk hb.size) (by omega) (by simp)).trans (hb.block k hk)⟩
end Go.Proofs.Ythcoghgpdcnhlaa
