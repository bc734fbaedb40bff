/-
  What package field says of errors, by contracts: own, joined and errors.Unwrap at a Fault.
-/
import Derived.Test.YthjinpbclfankaaGreatDoorErrsHit
import Derived.Test.YthjinpbclfankaaGreatDoorErrsMiss
namespace Go.Proofs.YthjinpbclfankaaGreatDoor
open Go.RowKit Go.Extern.Stop Go.Stop Go.Extern

/-- Two pointers to one Fault, as errors, are one. -/
theorem eqFF (a : Addr) (w : World) : (binOp .eql 60 (.iface 127 (.pointer (some a))) (.iface 127 (.pointer (some a)))).run Tryz.prog w = .ok (.bool true) w := by
  obtain ⟨i, hi, hc⟩ := Option.map_eq_some_iff.1 (show (Tryz.prog.info? 127).map (·.comparable) = some true by kernel_rfl)
  obtain ⟨j, hj, _⟩ := Option.map_eq_some_iff.1 (show (Tryz.prog.info? 129).map (·.comparable) = some true by kernel_rfl)
  exact run_eql_iface_ptr_same w a Tryz.underlying60 Tryz.underlying127 hi hc hj

/-- errors.As, the target a *Fault variable in block n: what lies below block n is as it was. -/
theorem as_hit_below (e : Addr) (n : Nat) (old : Value) (w : World) (hg : ErrType w) (ht0 : w.cell? ⟨n, 0, none⟩ = some old) (hf0 : w.frozen? ⟨n, 0, none⟩ = false) :
    Calls Tryz.prog 72 #[.iface 127 (.pointer (some e)), .iface 142 (.pointer (some ⟨n, 0, none⟩))] w fun ev w' => ev = .returned (.bool true) ∧ w'.cell? ⟨n, 0, none⟩ = some (.pointer (some e)) ∧ Below n w w' := by
  have hn : n < w.heap.size := by
    rcases Nat.lt_or_ge n w.heap.size with h | h
    · exact h
    · simp [World.cell?, Array.getElem?_eq_none h] at ht0
  refine (as_hit e ⟨n, 0, none⟩ old w hg ht0 hf0).mono fun ev w' ⟨he, hw⟩ => ⟨he, ?_, ?_⟩
  · subst hw
    have h4 : (((((w.alloc (.cells #[.pointer (some ⟨n, 0, none⟩)] 142)).alloc (.cells #[.pointer (some ⟨1, 142, none⟩), .pointer (some ⟨w.heap.size, 0, none⟩), .int .u64 150] 155)).alloc (.cells #[.pointer (some ⟨1, 142, none⟩), .pointer (some ⟨w.heap.size, 0, none⟩), .int .u64 150] 155)).alloc (.cells #[.pointer (some e)] 127))).cell? ⟨n, 0, none⟩ = some old := by
      rw [World.cell?_alloc_lt _ _ ⟨n, 0, none⟩ (by simp; omega), World.cell?_alloc_lt _ _ ⟨n, 0, none⟩ (by simp; omega), World.cell?_alloc_lt _ _ ⟨n, 0, none⟩ (by simp; omega), World.cell?_alloc_lt _ _ ⟨n, 0, none⟩ hn]; exact ht0
    exact World.cell?_setCell_same _ _ _ h4
  · subst hw
    exact (((((Below.refl n w).alloc (by omega) _).alloc (by simp; omega) _).alloc (by simp; omega) _).alloc (by simp; omega) _).setCell (Nat.le_refl _) _

/-- errors.Unwrap of a Fault: what lies under it. -/
theorem unwrap_fault (b o : Nat) (u : Value) (w : World) (hu : w.cell? ⟨b, o + 2, none⟩ = some u) :
    Calls Tryz.prog 65 #[.iface 127 (.pointer (some ⟨b, o, none⟩))] w fun ev w' => ev = .returned u ∧ w' = w := by
  have hU := hasUnwrapF
  go_enter Tryz.func65, Tryz.ntmps65
  go_wp2
  go_ret
  exact ⟨rfl, rfl⟩

/-- own: a Fault's number, and true. -/
theorem own_fault (b o : Nat) (E : Int) (w : World) (hg : ErrType w) (hE : w.cell? ⟨b, o, none⟩ = some (.int .i64 E)) :
    Calls Tryz.prog 63 #[.iface 127 (.pointer (some ⟨b, o, none⟩))] w fun ev w' => ev = .returned (.tuple #[.int .i64 E, .bool true]) ∧ Below w.heap.size w w' := by
  have hq := eqFF
  have hbl : b < w.heap.size := by
    rcases Nat.lt_or_ge b w.heap.size with h | h
    · exact h
    · simp [World.cell?, Array.getElem?_eq_none h] at hE
  have hz : 0 < w.heap.size := World.block_lt_of_cell? w _ hg
  have HG := hg
  go_enter Tryz.func63, Tryz.ntmps63
  go_wp2_with fail
  go_at_call 72
  refine (as_hit_below ⟨b, o, none⟩ w.heap.size (.pointer none) _ ?_ ?_ ?_).mono ?_
  · unfold ErrType; rw [World.cell?_alloc_lt _ _ ⟨0, 0, none⟩ hz]; exact HG
  · simp
  · simp
  rintro ev w' ⟨rfl, hc, hb⟩
  have hE' : w'.cell? ⟨b, o, none⟩ = some (.int .i64 E) := by
    rw [hb.cell (p := ⟨b, o, none⟩) hbl, World.cell?_alloc_lt _ _ ⟨b, o, none⟩ hbl]; exact hE
  go_wp2
  go_ret2
  exact ⟨rfl, ((Below.refl _ _).alloc (Nat.le_refl _) _).trans hb⟩

/-- joined: nothing, whether nothing lies under the Fault or a Fault does. -/
theorem joined_bare (b o : Nat) (w : World) (hu : w.cell? ⟨b, o + 2, none⟩ = some .nilIface) :
    Calls Tryz.prog 64 #[.iface 127 (.pointer (some ⟨b, o, none⟩))] w fun ev w' => ev = .returned (.slice none 0 0) ∧ Below w.heap.size w w' := by
  have hbl : b < w.heap.size := by
    rcases Nat.lt_or_ge b w.heap.size with h | h
    · exact h
    · simp [World.cell?, Array.getElem?_eq_none h] at hu
  have hu1 : ∀ x, (w.alloc x).cell? ⟨b, o + 2, none⟩ = some .nilIface := fun x => by rw [World.cell?_alloc_lt _ _ ⟨b, o + 2, none⟩ hbl]; exact hu
  go_enter Tryz.func64, Tryz.ntmps64
  go_wp2_with (first
    | (go_at_call 65; refine (unwrap_fault _ _ .nilIface _ (hu1 _)).mono ?_; rintro ev w' ⟨rfl, rfl⟩)
    | (go_at_call 72; refine (as_miss _ _ _ _ (hu1 _)).mono ?_; rintro ev w' ⟨rfl, rfl⟩))
  go_ret
  exact ⟨rfl, by go_grown⟩
theorem joined_over (b o : Nat) (t : TypeId) (u : Value) (w : World) (hu : w.cell? ⟨b, o + 2, none⟩ = some (.iface t u)) :
    Calls Tryz.prog 64 #[.iface 127 (.pointer (some ⟨b, o, none⟩))] w fun ev w' => ev = .returned (.slice none 0 0) ∧ Below w.heap.size w w' := by
  have hbl : b < w.heap.size := by
    rcases Nat.lt_or_ge b w.heap.size with h | h
    · exact h
    · simp [World.cell?, Array.getElem?_eq_none h] at hu
  have hu1 : ∀ x, (w.alloc x).cell? ⟨b, o + 2, none⟩ = some (.iface t u) := fun x => by rw [World.cell?_alloc_lt _ _ ⟨b, o + 2, none⟩ hbl]; exact hu
  go_enter Tryz.func64, Tryz.ntmps64
  go_wp2_with (go_at_call 65; refine (unwrap_fault _ _ (.iface t u) _ (hu1 _)).mono ?_; rintro ev w' ⟨rfl, rfl⟩)
  go_ret
  exact ⟨rfl, by go_grown⟩
end Go.Proofs.YthjinpbclfankaaGreatDoor
