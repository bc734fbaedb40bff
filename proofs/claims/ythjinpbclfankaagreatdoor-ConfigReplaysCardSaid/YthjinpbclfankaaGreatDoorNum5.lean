/-
  numbers (package config), by a contract: the list of an order's numbers, by value.
-/
import Derived.Test.YthjinpbclfankaaGreatDoorMem12
import Derived.BigRegion
import Derived.Handy
namespace Go.Proofs.YthjinpbclfankaaGreatDoor
open Go.RowKit

def wid5 : Nat → Int
  | 0 => 1
  | _ => 2
/-- The list of the numbers of the order in block b. -/
def arr5 (b : Nat) : Value := .agg #[.pointer (some ⟨b, 0, none⟩), .int .i64 1, .pointer (some ⟨b, 1, none⟩), .int .i64 2, .pointer (some ⟨b, 2, none⟩), .int .i64 2, .pointer (some ⟨b, 3, none⟩), .int .i64 2, .pointer (some ⟨b, 4, none⟩), .int .i64 2]
theorem arr5_at (b : Nat) {i : Nat} (hi : i < 5) (w : World) : (Instr.index 56 (arr5 b) (.int .i64 (i : Int))).run Tryz.prog w = .ok (.agg #[.pointer (some ⟨b, i, none⟩), .int .i64 (wid5 i)]) w := by
  rcases (show i = 0 ∨ i = 1 ∨ i = 2 ∨ i = 3 ∨ i = 4 by omega) with rfl | rfl | rfl | rfl | rfl <;> kernel_rfl
set_option maxRecDepth 100000 in
set_option maxHeartbeats 4000000 in
theorem numbers5 (b : Nat) (w : World) :
    Calls Tryz.prog 16 #[.pointer (some ⟨b, 0, none⟩)] w fun e w' => e = .returned (arr5 b) ∧ Below w.heap.size w w' := by
  go_enter Tryz.func16, Tryz.ntmps16
  go_wp2
  go_region
  go_wp2
  go_returns
  exact ⟨rfl, by go_grown⟩
end Go.Proofs.YthjinpbclfankaaGreatDoor
