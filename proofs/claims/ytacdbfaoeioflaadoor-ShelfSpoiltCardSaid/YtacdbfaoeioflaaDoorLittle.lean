/-
  The calls of a plate that only tell: Size, Dead, Calls, reach, kept, and the closures, by contracts.
-/
import Derived.Test.YtacdbfaoeioflaaDoorCells
namespace Go.Proofs.YtacdbfaoeioflaaDoor
open Go.RowKit

theorem size_any (b : Nat) (s : St) (F : Nat → Prop) (w : World) (h : PB w b s F) :
    Calls Tryd.prog 57 #[.pointer (some ⟨b, 0, none⟩)] w fun e w' => e = .returned (.int .i64 (s.is.length : Int)) ∧ w = w' := by
  obtain ⟨L, K, v, h, -⟩ := h
  obtain ⟨c0, -⟩ := h.cells
  clear h
  go_enter Tryd.func57, Tryd.ntmps57
  go_wp2
  go_ret
  exact ⟨rfl, rfl⟩

theorem dead_any (b : Nat) (s : St) (F : Nat → Prop) (w : World) (h : PB w b s F) :
    Calls Tryd.prog 42 #[.pointer (some ⟨b, 0, none⟩)] w fun e w' => e = .returned (.bool s.gone) ∧ w = w' := by
  obtain ⟨L, K, v, h, -⟩ := h
  obtain ⟨-, -, c0, -⟩ := h.cells
  clear h
  go_enter Tryd.func42, Tryd.ntmps42
  go_wp2
  go_ret
  exact ⟨rfl, rfl⟩

theorem reach_any (b : Nat) (s : St) (F : Nat → Prop) (i : Int) (w : World) (h : PB w b s F) :
    Calls Tryd.prog 67 #[.pointer (some ⟨b, 0, none⟩), .int .i64 i] w fun e w' => e = .returned (.int .i64 (wrong s i)) ∧ w = w' := by
  obtain ⟨L, K, v, h, -⟩ := h
  obtain ⟨c0, -, c2, -⟩ := h.cells
  clear h
  unfold wrong
  cases hg : s.gone
  · rw [hg] at c2
    rw [if_neg (by simp)]
    generalize s.is.length = m at c0 ⊢
    by_cases h1 : i < 0
    · rw [if_pos (.inl h1)]
      go_enter Tryd.func67, Tryd.ntmps67
      go_wp2
      go_ret
      exact ⟨rfl, rfl⟩
    · by_cases h2 : (m : Int) ≤ i
      · rw [if_pos (.inr h2)]
        go_enter Tryd.func67, Tryd.ntmps67
        go_wp2
        go_ret
        exact ⟨rfl, rfl⟩
      · rw [if_neg (fun hc => by rcases hc with hc | hc; exact h1 hc; exact h2 hc)]
        go_enter Tryd.func67, Tryd.ntmps67
        go_wp2
        go_ret
        exact ⟨rfl, rfl⟩
  · rw [hg] at c2
    rw [if_pos rfl]
    go_enter Tryd.func67, Tryd.ntmps67
    go_wp2
    go_ret
    exact ⟨rfl, rfl⟩

theorem all_any (j : Int) (w : World) :
    Calls Tryd.prog 71 #[.int .i64 j] w fun e w' => e = .returned (.int .i64 32) ∧ w = w' := by
  go_enter Tryd.func71, Tryd.ntmps71
  go_wp2
  go_ret
  exact ⟨rfl, rfl⟩

theorem and15L (n : Nat) (h : n < 18446744073709551616) : bits .and .u64 (n : Int) 15 = ((n % 16 : Nat) : Int) := by
  have key : bits .and .u64 (n : Int) 15 = IntKind.u64.wrap (((BitVec.ofInt IntKind.u64.bits (n : Int) &&& BitVec.ofInt IntKind.u64.bits 15).toNat : Nat) : Int) := rfl
  have h1 : (BitVec.ofInt IntKind.u64.bits (n : Int) &&& BitVec.ofInt IntKind.u64.bits 15).toNat = n % 16 := by
    rw [BitVec.toNat_and]
    have e1 : (BitVec.ofInt IntKind.u64.bits (n : Int)).toNat = n := by
      rw [BitVec.ofInt_natCast, BitVec.toNat_ofNat]; exact Nat.mod_eq_of_lt h
    have e2 : (BitVec.ofInt IntKind.u64.bits 15).toNat = 2 ^ 4 - 1 := by decide
    rw [e1, e2, Nat.and_two_pow_sub_one_eq_mod]
  rw [key, h1]
  generalize hm : n % 16 = m
  have : m < 16 := by omega
  match m, this with
  | 0, _ | 1, _ | 2, _ | 3, _ | 4, _ | 5, _ | 6, _ | 7, _ | 8, _ | 9, _ | 10, _ | 11, _ | 12, _ | 13, _ | 14, _ | 15, _ => rfl
  | k + 16, h => exact absurd h (by omega)
theorem share_bits (keep j : Nat) (hk : keep < 18446744073709551616) : bits .and .u64 ((keep : Int) / 2 ^ (4 * (j % 16))) 15 = (share keep j : Int) := by
  have e : (keep : Int) / 2 ^ (4 * (j % 16)) = ((keep >>> (4 * (j % 16)) : Nat) : Int) := by
    rw [Nat.shiftRight_eq_div_pow]; push_cast; rfl
  rw [e, and15L _ (by rw [Nat.shiftRight_eq_div_pow]; exact Nat.lt_of_le_of_lt (Nat.div_le_self _ _) hk)]
  rfl

theorem kept_any (keep j : Nat) (w : World) (hk : keep < 18446744073709551616) (hj : j ≤ 1000) :
    Calls Tryd.prog 75 #[.int .u64 keep, .int .i64 j] w fun e w' => e = .returned (.int .i64 (part keep j)) ∧ w = w' := by
  have hs := share_bits keep j hk
  have hl := share_lt keep j
  unfold part
  generalize share keep j = t at hs hl ⊢
  have hw : wrap64 (t : Int) = t := IntWalk.wrap64_in _ (by omega)
  by_cases h15 : t = 15
  · subst h15
    rw [if_pos rfl]
    go_enter Tryd.func75, Tryd.ntmps75
    go_wp2
    go_ret
    exact ⟨rfl, rfl⟩
  · rw [if_neg h15]
    have h15' : ((t : Int) == 15) = false := by simp; omega
    go_enter Tryd.func75, Tryd.ntmps75
    go_wp2
    go_ret
    exact ⟨by simp, rfl⟩

theorem torn_any (C keep j : Nat) (w : World) (hC : w.cell? ⟨C, 0, none⟩ = some (.int .u64 keep)) (hk : keep < 18446744073709551616) (hj : j ≤ 1000) :
    Calls Tryd.prog 74 #[.int .i64 j, .pointer (some ⟨C, 0, none⟩)] w fun e w' => e = .returned (.int .i64 (part keep j)) ∧ w = w' := by
  have HK := Lib.hid (fun w => kept_any keep j w hk hj)
  generalize part keep j = t at HK ⊢
  go_enter Tryd.func74, Tryd.ntmps74
  go_wp2_with (go_at_call 75; refine (HK.out _).mono ?_; rintro e w1 ⟨rfl, rfl⟩)
  go_ret
  exact ⟨rfl, rfl⟩
end Go.Proofs.YtacdbfaoeioflaaDoor
