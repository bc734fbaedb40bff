/-
  The queue's length, at, add and all (package bag), by contracts.
-/
import Derived.Test.YthcoghgpdcnhlaaRow
namespace Go.Proofs.Ythcoghgpdcnhlaa
open Go.RowKit

theorem length_any (b : Nat) (row : Option Nat) (l : List M) (w : World) (hB : Bg w b row l) :
    Calls Try.prog 45 #[.pointer (some ⟨b, 0, none⟩)] w fun e w' => e = .returned (.int .i64 l.length) ∧ w = w' := by
  obtain ⟨s, hs, hf, ho, hr⟩ := hB
  rcases ho.form with ⟨rfl, rfl⟩ | ⟨g, cap, rfl, -⟩
  all_goals
    clear ho hr hf
    go_enter Try.func45, Try.ntmps45
    go_wp2
    go_ret
    exact ⟨rfl, rfl⟩

/-- No message. -/
@[reducible] def M.zero : M := ⟨0, 0, 0, 0, 0, 0, 0, ⟨#[]⟩⟩

set_option maxRecDepth 100000 in
theorem at_no (b : Nat) (row : Option Nat) (l : List M) (i : Int) (w : World) (hB : Bg w b row l) (hi : i < 0 ∨ (l.length : Int) ≤ i) :
    Calls Try.prog 26 #[.pointer (some ⟨b, 0, none⟩), .int .i64 i] w fun e w' => e = .returned (.tuple #[M.zero.val, .bool false]) ∧ Below w.heap.size w w' := by
  have hbl := hB.lt
  obtain ⟨s, hs, hf, ho, hr⟩ := hB
  by_cases h0 : i < 0
  · clear ho hr hf
    go_enter Try.func26, Try.ntmps26
    go_wp2
    go_returns
    exact ⟨rfl, by go_grown⟩
  · have h1 : (l.length : Int) ≤ i := by omega
    rcases ho.form with ⟨rfl, rfl⟩ | ⟨g, cap, rfl, -⟩
    · clear ho hr hf hi
      have h2 : (0 : Int) ≤ i := by omega
      go_enter Try.func26, Try.ntmps26
      go_wp2
      go_returns
      exact ⟨rfl, by go_grown⟩
    · clear ho hr hf hi
      go_enter Try.func26, Try.ntmps26
      go_wp2
      go_returns
      exact ⟨rfl, by go_grown⟩

set_option maxRecDepth 100000 in
set_option maxHeartbeats 1000000 in
theorem at_yes (b : Nat) (row : Option Nat) (l : List M) (i : Nat) (m : M) (w : World) (hB : Bg w b row l) (hi : l[i]? = some m) (hl : l.length ≤ 1000) :
    Calls Try.prog 26 #[.pointer (some ⟨b, 0, none⟩), .int .i64 i] w fun e w' => e = .returned (.tuple #[m.val, .bool true]) ∧ Below w.heap.size w w' := by
  have hbl := hB.lt
  have hil : i < l.length := (List.getElem?_eq_some_iff.1 hi).1
  obtain ⟨s, hs, hf, ho, hr⟩ := hB
  rcases ho.form with ⟨rfl, rfl⟩ | ⟨g, cap, rfl, -, hgl, -, -, hat⟩
  · simp at hil
  · obtain ⟨c0, c1, c2, c3, c4, c5, c6, c7⟩ := hat i m hi
    have h0 : ¬ ((i : Int) < 0) := by omega
    have h1 : ¬ ((l.length : Int) ≤ (i : Int)) := by omega
    have h2 : (i : Int) < (l.length : Int) := by omega
    clear ho hr hf hi hat
    go_enter Try.func26, Try.ntmps26
    go_wp2
    go_returns
    exact ⟨rfl, by go_grown⟩
end Go.Proofs.Ythcoghgpdcnhlaa
