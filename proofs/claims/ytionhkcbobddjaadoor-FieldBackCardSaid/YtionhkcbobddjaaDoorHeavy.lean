/-
  A list of calls in memory; heavy, by its contract: where it answers false there are at most 8192 calls.
-/
import Derived.Test.YtionhkcbobddjaaDoorRefText
namespace Go.Proofs.YtionhkcbobddjaaDoor
open Go.RowKit Go.Extern.Stop Go.Stop Go.Extern Go.PlainAid Go.Lib

/-- A list of n calls, at A: their kinds, numbers, widths and texts. -/
def Steps (w : World) (A : Option Addr) (n : Nat) (kd nn kk : Nat → Int) (ss : Nat → ByteArray) : Prop :=
  ∀ i, i < n → ∃ b off, A = some ⟨b, off, none⟩ ∧ w.cell? ⟨b, off + i * 4, none⟩ = some (.int .i64 (kd i)) ∧ w.cell? ⟨b, off + i * 4 + 1, none⟩ = some (.int .i64 (nn i)) ∧ w.cell? ⟨b, off + i * 4 + 2, none⟩ = some (.int .i64 (kk i)) ∧ w.cell? ⟨b, off + i * 4 + 3, none⟩ = some (.string (ss i))

theorem Steps.below {w w' : World} {B : Nat} (hb : Below B w w') (hB : w.heap.size ≤ B) {A : Option Addr} {n : Nat} {kd nn kk : Nat → Int} {ss : Nat → ByteArray} (h : Steps w A n kd nn kk ss) : Steps w' A n kd nn kk ss := by
  intro i hi
  obtain ⟨b, off, hA, h0, h1, h2, h3⟩ := h i hi
  have hl := cell_lt h0
  exact ⟨b, off, hA, by rw [hb.cell (p := ⟨b, off + i * 4, none⟩) (show b < B by omega)]; exact h0, by rw [hb.cell (p := ⟨b, off + i * 4 + 1, none⟩) (show b < B by omega)]; exact h1, by rw [hb.cell (p := ⟨b, off + i * 4 + 2, none⟩) (show b < B by omega)]; exact h2, by rw [hb.cell (p := ⟨b, off + i * 4 + 3, none⟩) (show b < B by omega)]; exact h3⟩

def HeavyPost (n : Nat) (w : World) (e : Ending) (w' : World) : Prop := ∃ h : Bool, e = .returned (.bool h) ∧ (h = false → n ≤ 8192) ∧ w = w'

set_option maxRecDepth 100000 in
set_option maxHeartbeats 1000000 in
theorem heavy_any (A : Option Addr) (n c : Nat) (kd nn kk : Nat → Int) (ss : Nat → ByteArray) (w : World) (hn : n ≤ 9223372036854775807) (hss : ∀ i, i < n → (ss i).size ≤ 9223372036854775807) (hS : Steps w A n kd nn kk ss) :
    Calls Tryd.prog 9 #[.slice A n c] w (HeavyPost n w) := by
  have HS := Lib.hid hS
  have HSS := Lib.hid hss
  clear hS hss
  by_cases hn20 : n < 1048576
  · have hnI : (n : Int) < 1048576 := by omega
    go_enter Tryd.func9, Tryd.ntmps9
    go_wp2
    go_loop [3, 4] (fun s i => ∃ (k : Nat) (x : Int), k ≤ n ∧ i = .int .i64 k ∧ s = .int .i64 x ∧ (n : Int) ≤ x ∧ x ≤ 2200000) (fun _ i => n - (intOf i).toNat)
    case atStart => exact ⟨0, _, Nat.zero_le _, rfl, rfl, by omega, by omega⟩
    case round =>
      obtain ⟨k, x, hk, rfl, rfl, hx0, hx1⟩ := hrel
      by_cases hlt : k < n
      · by_cases hx : x ≤ 8192
        · obtain ⟨b, off, rfl, -, -, -, h3⟩ := HS.out k hlt
          have hz := HSS.out k hlt
          have hlI : (k : Int) < (n : Int) := by omega
          have hkI : (0 : Int) ≤ (k : Int) := by omega
          have hd1 : decide ((k : Int) < (n : Int)) = true := by simp only [decide_eq_true_eq]; omega
          have hd2 : decide (x ≤ 8192) = true := by simp only [decide_eq_true_eq]; omega
          by_cases hm : (ss k).size < 1048576
          · have hmI : ((ss k).size : Int) < 1048576 := by omega
            generalize (ss k) = sk at h3 hz hmI
            go_wp2
            all_goals
              go_round
              case rel => exact ⟨k + 1, _, by omega, by go_num, rfl, by omega, by omega⟩
              case measure => simp [intOf]; omega
          · have hmI : (1048576 : Int) ≤ ((ss k).size : Int) := by omega
            generalize (ss k) = sk at h3 hz hmI
            go_wp2
            all_goals
              go_round
              case rel => exact ⟨k + 1, _, by omega, by go_num, rfl, by omega, by omega⟩
              case measure => simp [intOf]; omega
        · have hd1 : decide ((k : Int) < (n : Int)) = true := by simp only [decide_eq_true_eq]; omega
          have hd2 : decide (x ≤ 8192) = false := by simp only [decide_eq_false_iff_not]; omega
          go_wp2
          go_ret
          exact ⟨_, rfl, fun h => by simp at h <;> omega, rfl⟩
      · have hd1 : decide ((k : Int) < (n : Int)) = false := by simp only [decide_eq_false_iff_not]; omega
        go_wp2
        go_ret
        exact ⟨_, rfl, fun h => by simp at h <;> omega, rfl⟩
  · have hnI : (1048576 : Int) ≤ (n : Int) := by omega
    go_enter Tryd.func9, Tryd.ntmps9
    go_wp2
    all_goals
      go_loop [3, 4] (fun s i => ∃ (k : Nat) (x : Int), k ≤ n ∧ i = .int .i64 k ∧ s = .int .i64 x ∧ (1048576 : Int) ≤ x ∧ x ≤ 2200000) (fun _ i => n - (intOf i).toNat)
      case atStart => exact ⟨0, _, Nat.zero_le _, rfl, rfl, by omega, by omega⟩
      case round =>
        obtain ⟨k, x, hk, rfl, rfl, hx0, hx1⟩ := hrel
        by_cases hlt : k < n
        · by_cases hx : x ≤ 8192
          · exfalso; omega
          · have hd1 : decide ((k : Int) < (n : Int)) = true := by simp only [decide_eq_true_eq]; omega
            have hd2 : decide (x ≤ 8192) = false := by simp only [decide_eq_false_iff_not]; omega
            go_wp2
            go_ret
            exact ⟨_, rfl, fun h => by simp at h <;> omega, rfl⟩
        · have hd1 : decide ((k : Int) < (n : Int)) = false := by simp only [decide_eq_false_iff_not]; omega
          go_wp2
          go_ret
          exact ⟨_, rfl, fun h => by simp at h <;> omega, rfl⟩
end Go.Proofs.YtionhkcbobddjaaDoor
