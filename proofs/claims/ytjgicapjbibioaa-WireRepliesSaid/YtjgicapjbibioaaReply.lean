/-
  Reply (package wire) and the document's own, by contracts.
-/
import Derived.Test.YtjgicapjbibioaaChk
namespace Go.Proofs.Ytjgicapjbibioaa
open Go.RowKit

@[reducible] def M.reply (m : M) (k : Int) : M := ⟨k, m.dst, m.src, m.epoch, m.seq, 0, 0, ⟨#[]⟩⟩

set_option maxRecDepth 100000 in
theorem reply_any (m : M) (k : Int) (w : World) :
    Calls Try.prog 4 #[m.val, .int .i64 k] w fun e w' => e = .returned (m.reply k).val ∧ Below w.heap.size w w' := by
  go_enter Try.func4, Try.ntmps4
  go_wp2
  go_returns
  exact ⟨rfl, by go_grown⟩
set_option maxRecDepth 100000 in
theorem rreply_any (m : M) (k : Int) (w : World) :
    Calls Try.prog 5 #[m.val, .int .i64 k] w fun e w' => e = .returned (m.reply k).val ∧ Below w.heap.size w w' := by
  go_enter Try.func5, Try.ntmps5
  go_wp2
  go_returns
  exact ⟨rfl, by go_grown⟩
end Go.Proofs.Ytjgicapjbibioaa
