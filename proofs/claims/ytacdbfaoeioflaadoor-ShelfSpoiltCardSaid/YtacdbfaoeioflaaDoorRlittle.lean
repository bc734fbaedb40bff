/-
  The document's own (weirkeepref07): Zeros, wrong, Cut, Power, by contracts.
-/
import Derived.Test.YtacdbfaoeioflaaDoorCrash
namespace Go.Proofs.YtacdbfaoeioflaaDoor
open Go.RowKit

theorem info_u8 : (Tryd.prog.info? 5).map (fun i => (i.zero, i.size, i.bytes)) = some (some (.int .u8 0), 1, 1) := by kernel_rfl
set_option maxRecDepth 100000 in
theorem rzeros_any (k : Nat) (hk : k ≤ 32) (w : World) :
    Calls Tryd.prog 18 #[.int .i64 (k : Int)] w fun e w' => e = .returned (.string (str (zeros k))) ∧ Below w.heap.size w w' := by
  obtain ⟨i0, hi0, hz0, hz1, hz2⟩ := info_parts info_u8
  have hmk := run_make_row (P := Tryd.prog) 31 5 i0 (.int .u8 0) Tryd.underlying31 hi0 hz0 hz1 rfl .i64 .i64 k (by rw [hz2]; omega) (by omega) w
  have hrow := World.rowIs_made w (.int .u8 0) k 5
  have hcv := run_convert_bytes_back (P := Tryd.prog) (w.alloc (.cells (madeCells #[.int .u8 0] k) 5)) 31 9 5 ⟨w.heap.size, 0, none⟩ k (zeros k) Tryd.underlying31 Tryd.underlying5 Tryd.underlying9 (fun j hj => by
    rw [Go.WideShapes.add_plain, Nat.zero_add, hrow.cell (by simpa [zeros] using hj)]
    simp [zeros])
  rw [show (zeros k).length = k by simp [zeros]] at hcv
  have hcv : (convert 31 9 (.slice (some ⟨w.heap.size, 0, none⟩) k k)).run Tryd.prog (w.alloc (.cells (madeCells #[.int .u8 0] k) 5)) = .ok (.string (str (zeros k))) (w.alloc (.cells (madeCells #[.int .u8 0] k) 5)) := hcv
  clear hrow hi0 hz0 hz1 hz2
  go_enter Tryd.func18, Tryd.ntmps18
  go_wp2
  go_ret
  exact ⟨rfl, (Below.refl _ _).alloc (Nat.le_refl _) _⟩

end Go.Proofs.YtacdbfaoeioflaaDoor
