/-
  numbers (package wire), by a contract: the list of a message's numbers, in memory of its own.
-/
import Derived.Test.YthcoghgpdcnhlaaProg
import Derived.WalkKit
import Derived.BigRegion
import Derived.Handy
import Derived.Lib.Hide
namespace Go.Proofs.Ythcoghgpdcnhlaa
open Go.RowKit

/-- The cells of the list of the numbers of the message in block b. -/
def numCells (b : Nat) : Array Value := #[.pointer (some ⟨b, 0, none⟩), .int .i64 1, .int .i64 255, .pointer (some ⟨b, 1, none⟩), .int .i64 1, .int .i64 7, .pointer (some ⟨b, 2, none⟩), .int .i64 1, .int .i64 7,
  .pointer (some ⟨b, 3, none⟩), .int .i64 8, .int .i64 1099511627776, .pointer (some ⟨b, 4, none⟩), .int .i64 8, .int .i64 1099511627776, .pointer (some ⟨b, 5, none⟩), .int .i64 2, .int .i64 256, .pointer (some ⟨b, 6, none⟩), .int .i64 2, .int .i64 256]

set_option maxRecDepth 100000 in
set_option maxHeartbeats 2000000 in
theorem numbers_any (b : Nat) (w : World) :
    Calls Try.prog 44 #[.pointer (some ⟨b, 0, none⟩)] w fun e w' => e = .returned (.slice (some ⟨w.heap.size, 0, none⟩) 7 7) ∧ w' = w.drew.alloc (.cells (numCells b) 72) := by
  go_enter Try.func44, Try.ntmps44
  go_wp2
  go_region
  go_wp2
  go_ret
  exact ⟨rfl, rfl⟩
end Go.Proofs.Ythcoghgpdcnhlaa
