/-
  Stop (package timer), by a contract.
-/
import Derived.Test.YtcanagecdniiiaaSet
namespace Go.Proofs.Ytcanagecdniiiaa
open Go.RowKit

set_option maxRecDepth 100000 in
set_option maxHeartbeats 2000000 in
theorem stop_any (B mb : Nat) (l : List Al) (n t : Int) (w : World) (h : Tms w B mb l) (hn : i64 n) (ht : i64 t) :
    Calls Try.prog 21 #[.pointer (some ⟨B, 0, none⟩), .int .i64 n, .int .i64 t] w fun e w' => e = .returned (.int .i64 (stopE l n t)) ∧ Tms w' B mb (wo l n t) ∧ w.grownBy w' (some mb) := by
  have hb1 : Below w.heap.size w (w.alloc (.cells #[.int .i64 n, .int .i64 t] 59)) := (Below.refl _ _).alloc (Nat.le_refl _) _
  have T1 := Lib.hid (h.below hb1)
  have B1 := Lib.hid hb1
  have hz : w.heap.size < (w.alloc (.cells #[.int .i64 n, .int .i64 t] 59)).heap.size := by simp
  have hc0 : (w.alloc (.cells #[.int .i64 n, .int .i64 t] 59)).cell? ⟨w.heap.size, 0, none⟩ = some (.int .i64 n) := by simp
  have hc1 : (w.alloc (.cells #[.int .i64 n, .int .i64 t] 59)).cell? ⟨w.heap.size, 1, none⟩ = some (.int .i64 t) := by simp
  have HH := Lib.hid (fun w (T : Tms w B mb l) => has_any B mb l n t w T hn ht)
  have HN := Lib.hid hn
  have HT := Lib.hid ht
  clear h hb1
  cases hh : hasA l n t
  · have e1 : stopE l n t = 3 := by unfold stopE; rw [hh]; rfl
    rw [e1, wo_self hh]
    rw [hh] at HH
    clear e1 hh
    go_enter Try.func21, Try.ntmps21
    go_wp2_with fail
    go_at_call 27
    refine (HH.out _ T1.out).mono ?_
    rintro e wa ⟨rfl, k1⟩
    have Ta := Lib.hid (T1.out.below k1)
    have Ba := Lib.hid (B1.out.trans (k1.mono B1.out.size))
    clear k1 T1 B1 hc0 hc1
    go_wp2
    go_ret
    exact ⟨rfl, Ta.out, grown_of_below Ba.out _⟩
  · have e1 : stopE l n t = 0 := by unfold stopE; rw [hh]; rfl
    rw [e1]
    rw [hh] at HH
    clear e1 hh
    go_enter Try.func21, Try.ntmps21
    go_wp2_with fail
    go_at_call 27
    refine (HH.out _ T1.out).mono ?_
    rintro e wa ⟨rfl, k1⟩
    have Ta := Lib.hid (T1.out.below k1)
    have Ba := Lib.hid (B1.out.trans (k1.mono B1.out.size))
    have d0 := (k1.cell (p := ⟨w.heap.size, 0, none⟩) hz).trans hc0
    have d1 := (k1.cell (p := ⟨w.heap.size, 1, none⟩) hz).trans hc1
    clear k1 T1 B1 hc0 hc1 hz
    go_wp2_with fail
    have hbd : Below wa.heap.size wa wa.drew := (Below.refl _ _).drew
    have Tb := Lib.hid (Ta.out.below hbd)
    have c0 := Ta.out.1
    have hz : ∀ ty, ∃ w', (Builtin.delete_ #[55, 59] ty #[.map (some mb), keyV n t]).run Try.prog wa.drew = .ok (.tuple #[]) w' ∧ Tm w' mb (wo l n t) ∧ wa.drew.mapTurned w' mb := fun ty => Tb.out.2.del HN.out HT.out ty
    obtain ⟨wb, hrun, k2, k3⟩ := hz 0
    have Tc := Lib.hid (Tb.out.turned k3.grown k2)
    have Gc := Lib.hid (below_then_grown Ba.out.drew k3.grown)
    clear k2 k3 hz hbd
    go_region
    go_wp2
    go_ret
    exact ⟨rfl, Tc.out, Gc.out⟩
end Go.Proofs.Ytcanagecdniiiaa
