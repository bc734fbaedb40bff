/-
  Margin (package clock) and the document's own, by contracts.
-/
import Derived.Test.YtdkkoeiceaolnaaClamp
namespace Go.Proofs.Ytdkkoeiceaolnaa
open Go.RowKit

/-- How long a lease may be used by a client's own clock. -/
def mg (lease num slack : Int) : Int := 100 * max (cl lease 0 1099511627776 - cl slack 0 1048576) 0 / (100 + cl num 0 1000)
theorem mg_ten : mg 10 0 0 = 10 := by decide

set_option maxHeartbeats 1000000 in
theorem margin_any (lease num slack : Int) (w : World) :
    Calls Try.prog 19 #[.int .i64 lease, .int .i64 num, .int .i64 slack] w fun e w' => e = .returned (.int .i64 (mg lease num slack)) ∧ Below w.heap.size w w' := by
  have b1 := cl_in lease 0 1099511627776 (by omega)
  have b2 := cl_in slack 0 1048576 (by omega)
  have b3 := cl_in num 0 1000 (by omega)
  obtain ⟨b11, b12⟩ := b1
  obtain ⟨b21, b22⟩ := b2
  obtain ⟨b31, b32⟩ := b3
  unfold mg
  generalize hL : cl lease 0 1099511627776 = L at *
  generalize hS : cl slack 0 1048576 = S at *
  generalize hN : cl num 0 1000 = N at *
  have HW : ∀ w, Calls Try.prog 32 #[.int .i64 lease, .int .i64 0, .int .i64 1099511627776] w fun e w' => e = .returned (.int .i64 L) ∧ w = w' := hL ▸ within_any _ _ _
  have HD : ∀ w, Calls Try.prog 26 #[.int .i64 num, .int .i64 slack] w fun e w' => e = .returned (.agg #[.int .i64 N, .int .i64 S]) ∧ Below w.heap.size w w' := hN ▸ hS ▸ driftOf_any _ _
  clear hL hS hN
  go_enter Try.func19, Try.ntmps19
  go_wp2_with fail
  go_at_call 26
  refine (HD _).mono ?_
  rintro e w1 ⟨rfl, hb1⟩
  have HB := Lib.hid hb1
  clear hb1
  go_wp2_with fail
  go_quiet ((go_at_call 32; exact quiet_same (HW _)))
  by_cases hc : L - S < 0
  all_goals
    go_wp2
    go_ret
    refine ⟨ret_int ?_, below_drewN (HB.out.alloc HB.out.size _) nq⟩
  · rw [show max (L - S) 0 = 0 by omega]; simp
  · rw [show max (L - S) 0 = L - S by omega]

set_option maxHeartbeats 1000000 in
theorem rmargin_any (lease num slack : Int) (w : World) :
    Calls Try.prog 20 #[.int .i64 lease, .int .i64 num, .int .i64 slack] w fun e w' => e = .returned (.int .i64 (mg lease num slack)) ∧ w = w' := by
  have b1 := cl_in lease 0 1099511627776 (by omega)
  have b2 := cl_in slack 0 1048576 (by omega)
  have b3 := cl_in num 0 1000 (by omega)
  obtain ⟨b11, b12⟩ := b1
  obtain ⟨b21, b22⟩ := b2
  obtain ⟨b31, b32⟩ := b3
  go_enter Try.func20, Try.ntmps20
  go_wp2_with (go_at_call 30; refine (clamp_any _ _ (by omega) _).mono ?_; rintro e w' ⟨rfl, rfl⟩)
  all_goals
    go_ret
    refine ⟨ret_int ?_, rfl⟩
    unfold mg
    generalize cl lease 0 1099511627776 = L at *
    generalize cl slack 0 1048576 = S at *
    generalize cl num 0 1000 = N at *
  · rcases Int.lt_or_le (L - S) 0 with hc | hc
    · rw [show 100 * L - 100 * S = -(100 * (S - L)) by omega, Int.neg_tdiv, Int.tdiv_eq_ediv_of_nonneg (by omega)] at h
      have := Int.ediv_nonneg (a := 100 * (S - L)) (b := 100 + N) (by omega) (by omega)
      omega
    · rw [show max (L - S) 0 = L - S by omega, show 100 * L - 100 * S = 100 * (L - S) by omega, Int.tdiv_eq_ediv_of_nonneg (by omega)]
  · rcases Int.lt_or_le (L - S) 0 with hc | hc
    · rw [show max (L - S) 0 = 0 by omega]; simp
    · rw [show max (L - S) 0 = L - S by omega]
      rw [show 100 * L - 100 * S = 100 * (L - S) by omega, Int.tdiv_eq_ediv_of_nonneg (by omega)] at h
      have := Int.ediv_nonneg (a := 100 * (L - S)) (b := 100 + N) (by omega) (by omega)
      omega
end Go.Proofs.Ytdkkoeiceaolnaa
