/-
  Timers (package timer), by contracts: New, key, allowed, has.
-/
import Derived.Test.YtcanagecdniiiaaMap
import Derived.Test.YtcanagecdniiiaaOrder
namespace Go.Proofs.Ytcanagecdniiiaa
open Go.RowKit

/-- Timers in block B, with the alarms l; mb: the block of their map. -/
def Tms (w : World) (B mb : Nat) (l : List Al) : Prop := w.cell? ⟨B, 0, none⟩ = some (.map (some mb)) ∧ Tm w mb l
theorem Tms.lt {w : World} {B mb : Nat} {l : List Al} (h : Tms w B mb l) : B < w.heap.size := World.block_lt_of_cell? w _ h.1
theorem Tms.ne {w : World} {B mb : Nat} {l : List Al} (h : Tms w B mb l) : mb ≠ B := h.2.ne_cells h.1
theorem Tms.kept {w w' : World} {B mb : Nat} {l : List Al} {row : Option Nat} (h : Tms w B mb l) (hg : w.grownBy w' row) (h1 : some B ≠ row) (h2 : some mb ≠ row) : Tms w' B mb l :=
  ⟨hg.cell h.1 h1, h.2.kept hg h2⟩
theorem Tms.below {w w' : World} {B mb : Nat} {l : List Al} (h : Tms w B mb l) (hb : Below w.heap.size w w') : Tms w' B mb l := h.kept (grown_of_below hb none) (by simp) (by simp)
/-- The map alone turns. -/
theorem Tms.turned {w w' : World} {B mb : Nat} {l k : List Al} (h : Tms w B mb l) (hg : w.grownBy w' (some mb)) (h2 : Tm w' mb k) : Tms w' B mb k :=
  ⟨hg.cell h.1 (fun e => h.ne (Option.some.inj e).symm), h2⟩

theorem new_any (w : World) :
    Calls Try.prog 8 #[] w fun e w' => e = .returned (.pointer (some ⟨w.heap.size + 1, 0, none⟩)) ∧ Tms w' (w.heap.size + 1) w.heap.size [] ∧ Below w.heap.size w w' ∧ w'.heap.size = w.heap.size + 2 := by
  have hmm := @run_makeMap Try.prog
  go_enter Try.func8, Try.ntmps8
  go_wp2
  go_ret
  refine ⟨rfl, ⟨by simp, (Tm.made w).below ((Below.refl _ _).alloc (Nat.le_refl _) _)⟩, by go_grown, by simp⟩

theorem key_any (x : Al) (w : World) :
    Calls Try.prog 28 #[x.val] w fun e w' => e = .returned (keyV x.n x.t) ∧ Below w.heap.size w w' := by
  go_enter Try.func28, Try.ntmps28
  go_wp2
  go_returns
  exact ⟨rfl, by go_grown⟩

theorem within_any (x g : Int) (w : World) :
    Calls Try.prog 35 #[.int .i64 x, .int .i64 g] w fun e w' => e = .returned (.bool (decide (0 ≤ x ∧ x ≤ g))) ∧ w = w' := by
  by_cases h0 : 0 ≤ x
  · by_cases h1 : x ≤ g
    · have e : decide (0 ≤ x ∧ x ≤ g) = true := by simp; omega
      rw [e]
      go_enter Try.func35, Try.ntmps35
      go_wp2
      go_ret
      exact ⟨rfl, rfl⟩
    · have e : decide (0 ≤ x ∧ x ≤ g) = false := by simp; omega
      rw [e]
      go_enter Try.func35, Try.ntmps35
      go_wp2
      go_ret
      exact ⟨rfl, rfl⟩
  · have e : decide (0 ≤ x ∧ x ≤ g) = false := by simp; omega
    rw [e]
    go_enter Try.func35, Try.ntmps35
    go_wp2
    go_ret
    exact ⟨rfl, rfl⟩

set_option maxHeartbeats 1000000 in
theorem allowed_any (x : Al) (w : World) :
    Calls Try.prog 26 #[x.val] w fun e w' => e = .returned (.bool (decide x.ok)) ∧ Below w.heap.size w w' := by
  obtain ⟨n, a, t⟩ := x
  obtain ⟨p1, h1⟩ : ∃ p, decide (0 ≤ n ∧ n ≤ 7) = p := ⟨_, rfl⟩
  obtain ⟨p2, h2⟩ : ∃ p, decide (0 ≤ a ∧ a ≤ 1099511627776) = p := ⟨_, rfl⟩
  obtain ⟨p3, h3⟩ : ∃ p, decide (0 ≤ t ∧ t ≤ 255) = p := ⟨_, rfl⟩
  have e : decide (Al.ok ⟨n, a, t⟩) = (p1 && (p2 && p3)) := by
    rw [← h1, ← h2, ← h3, ← Bool.decide_and, ← Bool.decide_and]; rfl
  have k1 := fun w => h1 ▸ within_any n 7 w
  have k2 := fun w => h2 ▸ within_any a 1099511627776 w
  have k3 := fun w => h3 ▸ within_any t 255 w
  rw [e]
  clear e h1 h2 h3
  cases p1 <;> cases p2 <;> cases p3
  all_goals
    go_enter Try.func26, Try.ntmps26
    go_wp2_with (first
      | (go_at_call 35; with_reducible refine (k1 _).mono ?_; rintro e w' ⟨rfl, rfl⟩)
      | (go_at_call 35; with_reducible refine (k2 _).mono ?_; rintro e w' ⟨rfl, rfl⟩)
      | (go_at_call 35; with_reducible refine (k3 _).mono ?_; rintro e w' ⟨rfl, rfl⟩))
    go_ret
    exact ⟨rfl, by go_grown⟩

set_option maxHeartbeats 1000000 in
theorem has_any (B mb : Nat) (l : List Al) (n t : Int) (w : World) (h : Tms w B mb l) (hn : i64 n) (ht : i64 t) :
    Calls Try.prog 27 #[.pointer (some ⟨B, 0, none⟩), keyV n t] w fun e w' => e = .returned (.bool (hasA l n t)) ∧ Below w.heap.size w w' := by
  have hbl := h.lt
  have hb1 : Below w.heap.size w (w.alloc (.cells #[.int .i64 n, .int .i64 t] 59)).drew := ((Below.refl _ _).alloc (Nat.le_refl _) _).drew
  have h1 := h.below hb1
  have k0 := h1.1
  have k1 := h1.2.look hn ht
  have hb2 : Below w.heap.size w ((w.alloc (.cells #[.int .i64 n, .int .i64 t] 59)).alloc (.cells #[.int .i64 0, .int .i64 0, .int .i64 0] 31)).drew := (((Below.refl _ _).alloc (Nat.le_refl _) _).alloc (by simp) _).drew
  have h2 := h.below hb2
  have k2 := h2.2.look hn ht
  have k3 := h2.1
  have k4 := h.1
  clear h h1 h2 hb1 hb2
  generalize lookA l n t = y at k1 k2
  generalize hasA l n t = r at k1 k2 ⊢
  go_enter Try.func27, Try.ntmps27
  go_wp2_with fail
  go_region
  all_goals
    go_wp2
    go_ret
    exact ⟨rfl, by go_grown⟩
end Go.Proofs.Ytcanagecdniiiaa
