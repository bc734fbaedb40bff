/-
  A list of steps in memory; heavy, by its contract: where it answers false there are at most 200 steps.
-/
import Derived.Test.YthcoghgpdcnhlaaDoes
namespace Go.Proofs.Ythcoghgpdcnhlaa
open Go.RowKit

/-- The step o lies at the place p of block b. -/
structure SAt (w : World) (b p : Nat) (o : Stp) : Prop where
  c0 : w.cell? ⟨b, p, none⟩ = some (.int .i64 o.k)
  c1 : w.cell? ⟨b, p + 1, none⟩ = some (.int .i64 o.i)
  c2 : w.cell? ⟨b, p + 2, none⟩ = some (.int .i64 o.m.kind)
  c3 : w.cell? ⟨b, p + 3, none⟩ = some (.int .i64 o.m.src)
  c4 : w.cell? ⟨b, p + 4, none⟩ = some (.int .i64 o.m.dst)
  c5 : w.cell? ⟨b, p + 5, none⟩ = some (.int .i64 o.m.epoch)
  c6 : w.cell? ⟨b, p + 6, none⟩ = some (.int .i64 o.m.seq)
  c7 : w.cell? ⟨b, p + 7, none⟩ = some (.int .i64 o.m.off)
  c8 : w.cell? ⟨b, p + 8, none⟩ = some (.int .i64 o.m.len)
  c9 : w.cell? ⟨b, p + 9, none⟩ = some (.string o.m.data)
theorem SAt.lt {w : World} {b p : Nat} {o : Stp} (h : SAt w b p o) : b < w.heap.size := cell_lt3 h.c0
theorem SAt.kept {w w' : World} {b p : Nat} {o : Stp} (h : SAt w b p o) (hx : ∀ o, w'.cell? ⟨b, o, none⟩ = w.cell? ⟨b, o, none⟩) : SAt w' b p o :=
  ⟨(hx _).trans h.c0, (hx _).trans h.c1, (hx _).trans h.c2, (hx _).trans h.c3, (hx _).trans h.c4, (hx _).trans h.c5, (hx _).trans h.c6, (hx _).trans h.c7, (hx _).trans h.c8, (hx _).trans h.c9⟩
/-- A list of n steps, at A. -/
def Steps (w : World) (A : Option Addr) (n : Nat) (st : Nat → Stp) : Prop := ∀ i, i < n → ∃ b off, A = some ⟨b, off, none⟩ ∧ SAt w b (off + i * 10) (st i)

def HeavyPost (n : Nat) (w : World) (e : Ending) (w' : World) : Prop := ∃ h : Bool, e = .returned (.bool h) ∧ (h = false → n ≤ 200) ∧ w = w'

set_option maxRecDepth 100000 in
set_option maxHeartbeats 1000000 in
theorem heavy_any (A : Option Addr) (n c : Nat) (st : Nat → Stp) (w : World) (hn : n ≤ 9223372036854775807) (hss : ∀ i, i < n → (st i).m.data.size ≤ 9223372036854775807) (hS : Steps w A n st) :
    Calls Try.prog 9 #[.slice A n c] w (HeavyPost n w) := by
  have HS := Lib.hid hS
  have HSS := Lib.hid hss
  clear hS hss
  by_cases hn20 : n < 1048576
  · have hnI : (n : Int) < 1048576 := by omega
    go_enter Try.func9, Try.ntmps9
    go_wp2
    go_loop [3, 4] (fun s i => ∃ (k : Nat) (x : Int), k ≤ n ∧ i = .int .i64 k ∧ s = .int .i64 x ∧ (n : Int) ≤ x ∧ x ≤ 2200000) (fun _ i => n - (intOf i).toNat)
    case atStart => exact ⟨0, _, Nat.zero_le _, rfl, rfl, by omega, by omega⟩
    case round =>
      obtain ⟨k, x, hk, rfl, rfl, hx0, hx1⟩ := hrel
      by_cases hlt : k < n
      · by_cases hx : x ≤ 8192
        · obtain ⟨b, off, rfl, hat⟩ := HS.out k hlt
          have h3 := hat.c9
          have hz := HSS.out k hlt
          have hlI : (k : Int) < (n : Int) := by omega
          have hkI : (0 : Int) ≤ (k : Int) := by omega
          have hd1 : decide ((k : Int) < (n : Int)) = true := by simp only [decide_eq_true_eq]; omega
          have hd2 : decide (x ≤ 8192) = true := by simp only [decide_eq_true_eq]; omega
          clear hat
          by_cases hm : (st k).m.data.size < 1048576
          · have hmI : ((st k).m.data.size : Int) < 1048576 := by omega
            generalize (st k).m.data = sk at h3 hz hmI
            go_wp2
            all_goals
              go_round
              case rel => exact ⟨k + 1, _, by omega, by go_num, rfl, by omega, by omega⟩
              case measure => simp [intOf]; omega
          · have hmI : (1048576 : Int) ≤ ((st k).m.data.size : Int) := by omega
            generalize (st k).m.data = sk at h3 hz hmI
            go_wp2
            all_goals
              go_round
              case rel => exact ⟨k + 1, _, by omega, by go_num, rfl, by omega, by omega⟩
              case measure => simp [intOf]; omega
        · have hd1 : decide ((k : Int) < (n : Int)) = true := by simp only [decide_eq_true_eq]; omega
          have hd2 : decide (x ≤ 8192) = false := by simp only [decide_eq_false_iff_not]; omega
          have hd3 : (8192 : Int) < x := by omega
          go_wp2
          go_ret
          exact ⟨_, rfl, fun h => by simp at h, rfl⟩
      · have hd1 : decide ((k : Int) < (n : Int)) = false := by simp only [decide_eq_false_iff_not]; omega
        by_cases hx : x ≤ 8192
        · have hd2 : ¬ ((8192 : Int) < x) := by omega
          go_wp2
          go_ret
          exact ⟨_, rfl, fun h => by simp at h <;> omega, rfl⟩
        · have hd2 : (8192 : Int) < x := by omega
          go_wp2
          go_ret
          exact ⟨_, rfl, fun h => by simp at h, rfl⟩
  · have hnI : (1048576 : Int) ≤ (n : Int) := by omega
    go_enter Try.func9, Try.ntmps9
    go_wp2
    all_goals
      go_loop [3, 4] (fun s i => ∃ (k : Nat) (x : Int), k ≤ n ∧ i = .int .i64 k ∧ s = .int .i64 x ∧ (1048576 : Int) ≤ x ∧ x ≤ 2200000) (fun _ i => n - (intOf i).toNat)
      case atStart => exact ⟨0, _, Nat.zero_le _, rfl, rfl, by omega, by omega⟩
      case round =>
        obtain ⟨k, x, hk, rfl, rfl, hx0, hx1⟩ := hrel
        have hd3 : (8192 : Int) < x := by omega
        by_cases hlt : k < n
        · have hd1 : decide ((k : Int) < (n : Int)) = true := by simp only [decide_eq_true_eq]; omega
          have hd2 : decide (x ≤ 8192) = false := by simp only [decide_eq_false_iff_not]; omega
          go_wp2
          go_ret
          exact ⟨_, rfl, fun h => by simp at h, rfl⟩
        · have hd1 : decide ((k : Int) < (n : Int)) = false := by simp only [decide_eq_false_iff_not]; omega
          go_wp2
          go_ret
          exact ⟨_, rfl, fun h => by simp at h, rfl⟩
end Go.Proofs.Ythcoghgpdcnhlaa
