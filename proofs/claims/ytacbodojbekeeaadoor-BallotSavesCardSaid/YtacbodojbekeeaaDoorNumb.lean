/-
  Number and Owner (package ballot), and the document's own, by contracts.
-/
import Derived.Test.YtacbodojbekeeaaDoorAcp1
namespace Go.Proofs.YtacbodojbekeeaaDoor
open Go.RowKit

/-- The ballot of a round and a node, and its error. -/
def numV (r n : Int) : Int := if r < 0 ∨ n < 0 ∨ 8 ≤ n then 0 else if 1099511627776 < 8 * r + n + 1 then 0 else 8 * r + n + 1
def numR (r n : Int) : Int := if r < 0 ∨ n < 0 ∨ 8 ≤ n then 1 else if 1099511627776 < 8 * r + n + 1 then 6 else 0
/-- The round and the node of a ballot. -/
def ownR (b : Int) : Int := if isB b then (b - 1) / 8 else -1
def ownN (b : Int) : Int := if isB b then (b - 1) % 8 else -1
theorem own_num {r n : Int} (h : numR r n = 0) : ownR (numV r n) = r ∧ ownN (numV r n) = n := by
  unfold numR at h
  split at h
  · cases h
  · rename_i h1
    split at h
    · cases h
    · rename_i h2
      have e : numV r n = 8 * r + n + 1 := by unfold numV; rw [if_neg h1, if_neg h2]
      rw [e]
      unfold ownR ownN
      have hb : isB (8 * r + n + 1) := ⟨by omega, by omega⟩
      rw [if_pos hb, if_pos hb]
      omega
theorem num_none {r n : Int} (h : numR r n ≠ 0) : numV r n = 0 := by
  unfold numV
  unfold numR at h
  split
  · rfl
  · rename_i h1
    rw [if_neg h1] at h
    split
    · rfl
    · rename_i h2; rw [if_neg h2] at h; exact absurd rfl h
theorem own_inj {b c : Int} (h0 : 0 ≤ ownR b) (h1 : ownR b = ownR c) (h2 : ownN b = ownN c) : b = c := by
  unfold ownR ownN at *
  by_cases hb : isB b
  · by_cases hc : isB c
    · rw [if_pos hb] at h0 h1 h2
      rw [if_pos hc] at h1 h2
      omega
    · rw [if_pos hb] at h0 h1
      rw [if_neg hc] at h1
      omega
  · rw [if_neg hb] at h0; omega

theorem numb_any (r n : Int) (w : World) :
    Calls Tryd.prog 24 #[.int .i64 r, .int .i64 n] w fun e w' => e = .returned (.tuple #[.int .i64 (numV r n), .int .i64 (numR r n)]) ∧ w = w' := by
  unfold numV numR
  by_cases h1 : r < 0
  · rw [if_pos (.inl h1), if_pos (.inl h1)]
    go_enter Tryd.func24, Tryd.ntmps24
    go_wp2
    go_ret2
    exact ⟨rfl, rfl⟩
  by_cases h2 : n < 0
  · rw [if_pos (.inr (.inl h2)), if_pos (.inr (.inl h2))]
    go_enter Tryd.func24, Tryd.ntmps24
    go_wp2
    go_ret2
    exact ⟨rfl, rfl⟩
  by_cases h3 : 8 ≤ n
  · rw [if_pos (.inr (.inr h3)), if_pos (.inr (.inr h3))]
    go_enter Tryd.func24, Tryd.ntmps24
    go_wp2
    go_ret2
    exact ⟨rfl, rfl⟩
  have hc : ¬ (r < 0 ∨ n < 0 ∨ 8 ≤ n) := by omega
  rw [if_neg hc, if_neg hc]
  clear hc
  obtain ⟨Q, hQ⟩ : ∃ Q, Int.tdiv (1099511627776 - n - 1) 8 = Q := ⟨_, rfl⟩
  have hQ' : (1099511627776 - n - 1) / 8 = Q := by rw [← hQ, Int.tdiv_eq_ediv_of_nonneg (by omega)]
  have hQ2 : 8 * Q ≤ 1099511627776 - n - 1 ∧ 1099511627776 - n - 1 < 8 * Q + 8 := by omega
  by_cases h4 : 1099511627776 < 8 * r + n + 1
  · rw [if_pos h4, if_pos h4]
    have h5 : Q < r := by omega
    have h6 : Q ≤ 1099511627776 := by omega
    have h7 : -10 ≤ Q := by omega
    clear hQ' hQ2 h4
    go_enter Tryd.func24, Tryd.ntmps24
    go_wp2
    go_ret2
    exact ⟨rfl, rfl⟩
  · rw [if_neg h4, if_neg h4]
    have h5 : ¬ Q < r := by omega
    have h6 : r ≤ 1099511627776 := by omega
    have h7 : Q ≤ 1099511627776 := by omega
    have h8 : -10 ≤ Q := by omega
    clear hQ' hQ2 h4
    go_enter Tryd.func24, Tryd.ntmps24
    go_wp2
    go_ret2
    exact ⟨rfl, rfl⟩
theorem rnumb_any (r n : Int) (w : World) :
    Calls Tryd.prog 25 #[.int .i64 r, .int .i64 n] w fun e w' => e = .returned (.tuple #[.int .i64 (numV r n), .int .i64 (numR r n)]) ∧ w = w' := by
  unfold numV numR
  by_cases h1 : r < 0
  · rw [if_pos (.inl h1), if_pos (.inl h1)]
    go_enter Tryd.func25, Tryd.ntmps25
    go_wp2
    go_ret2
    exact ⟨rfl, rfl⟩
  by_cases h2 : n < 0
  · rw [if_pos (.inr (.inl h2)), if_pos (.inr (.inl h2))]
    go_enter Tryd.func25, Tryd.ntmps25
    go_wp2
    go_ret2
    exact ⟨rfl, rfl⟩
  by_cases h3 : 8 ≤ n
  · rw [if_pos (.inr (.inr h3)), if_pos (.inr (.inr h3))]
    go_enter Tryd.func25, Tryd.ntmps25
    go_wp2
    go_ret2
    exact ⟨rfl, rfl⟩
  have hc : ¬ (r < 0 ∨ n < 0 ∨ 8 ≤ n) := by omega
  rw [if_neg hc, if_neg hc]
  clear hc
  by_cases h4 : 1099511627776 < r
  · have hc : 1099511627776 < 8 * r + n + 1 := by omega
    rw [if_pos hc, if_pos hc]
    go_enter Tryd.func25, Tryd.ntmps25
    go_wp2
    go_ret2
    exact ⟨rfl, rfl⟩
  by_cases h5 : 1099511627776 < 8 * r + n + 1
  · rw [if_pos h5, if_pos h5]
    go_enter Tryd.func25, Tryd.ntmps25
    go_wp2
    go_ret2
    exact ⟨rfl, rfl⟩
  · rw [if_neg h5, if_neg h5]
    go_enter Tryd.func25, Tryd.ntmps25
    go_wp2
    go_ret2
    exact ⟨rfl, rfl⟩
theorem own_any (b : Int) (w : World) :
    Calls Tryd.prog 26 #[.int .i64 b] w fun e w' => e = .returned (.tuple #[.int .i64 (ownR b), .int .i64 (ownN b)]) ∧ w = w' := by
  have HI := Lib.hid (isB_any b)
  unfold ownR ownN
  by_cases h1 : isB b
  · rw [decide_eq_true h1] at HI
    rw [if_pos h1, if_pos h1]
    obtain ⟨g1, g2⟩ := h1
    have hq : Int.tdiv (b - 1) 8 = (b - 1) / 8 := Int.tdiv_eq_ediv_of_nonneg (by omega)
    have hr : Int.tmod (b - 1) 8 = (b - 1) % 8 := Int.tmod_eq_emod_of_nonneg (by omega)
    obtain ⟨q, hq'⟩ : ∃ q, (b - 1) / 8 = q := ⟨_, rfl⟩
    obtain ⟨m, hm'⟩ : ∃ m, (b - 1) % 8 = m := ⟨_, rfl⟩
    have k1 : 0 ≤ q ∧ q ≤ 1099511627776 := by omega
    have k2 : 0 ≤ m ∧ m < 8 := by omega
    rw [hq'] at hq ⊢
    rw [hm'] at hr ⊢
    obtain ⟨k1, k3⟩ := k1
    obtain ⟨k2, k4⟩ := k2
    clear hq' hm'
    go_enter Tryd.func26, Tryd.ntmps26
    go_wp2_with (go_at_call 30; refine (HI.out _).mono ?_; rintro e w' ⟨rfl, rfl⟩)
    go_ret2
    exact ⟨rfl, rfl⟩
  · rw [decide_eq_false h1] at HI
    rw [if_neg h1, if_neg h1]
    go_enter Tryd.func26, Tryd.ntmps26
    go_wp2_with (go_at_call 30; refine (HI.out _).mono ?_; rintro e w' ⟨rfl, rfl⟩)
    go_ret2
    exact ⟨rfl, rfl⟩
theorem rown_any (b : Int) (w : World) :
    Calls Tryd.prog 27 #[.int .i64 b] w fun e w' => e = .returned (.tuple #[.int .i64 (ownR b), .int .i64 (ownN b)]) ∧ w = w' := by
  have HI := Lib.hid (risB_any b)
  unfold ownR ownN
  by_cases h1 : isB b
  · rw [decide_eq_true h1] at HI
    rw [if_pos h1, if_pos h1]
    obtain ⟨g1, g2⟩ := h1
    have hq : Int.tdiv (b - 1) 8 = (b - 1) / 8 := Int.tdiv_eq_ediv_of_nonneg (by omega)
    have hr : Int.tmod (b - 1) 8 = (b - 1) % 8 := Int.tmod_eq_emod_of_nonneg (by omega)
    obtain ⟨q, hq'⟩ : ∃ q, (b - 1) / 8 = q := ⟨_, rfl⟩
    obtain ⟨m, hm'⟩ : ∃ m, (b - 1) % 8 = m := ⟨_, rfl⟩
    have k1 : 0 ≤ q ∧ q ≤ 1099511627776 := by omega
    have k2 : 0 ≤ m ∧ m < 8 := by omega
    rw [hq'] at hq ⊢
    rw [hm'] at hr ⊢
    obtain ⟨k1, k3⟩ := k1
    obtain ⟨k2, k4⟩ := k2
    clear hq' hm'
    go_enter Tryd.func27, Tryd.ntmps27
    go_wp2_with (go_at_call 33; refine (HI.out _).mono ?_; rintro e w' ⟨rfl, rfl⟩)
    go_ret2
    exact ⟨rfl, rfl⟩
  · rw [decide_eq_false h1] at HI
    rw [if_neg h1, if_neg h1]
    go_enter Tryd.func27, Tryd.ntmps27
    go_wp2_with (go_at_call 33; refine (HI.out _).mono ?_; rintro e w' ⟨rfl, rfl⟩)
    go_ret2
    exact ⟨rfl, rfl⟩
end Go.Proofs.YtacbodojbekeeaaDoor
