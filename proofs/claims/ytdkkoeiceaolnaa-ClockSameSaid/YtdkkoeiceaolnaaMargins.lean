/-
  ClockMargins, walked.
-/
import Derived.Test.YtdkkoeiceaolnaaMargin
namespace Go.Proofs.Ytdkkoeiceaolnaa
open Go.RowKit

theorem cl_mono {x y lo hi : Int} (h : x ≤ y) : cl x lo hi ≤ cl y lo hi := by unfold cl; omega
/-- More lease is no less margin. -/
theorem mg_lease {a b num slack : Int} (h : a ≤ b) : mg a num slack ≤ mg b num slack := by
  have h1 := cl_mono (lo := 0) (hi := 1099511627776) h
  have h2 := cl_in num 0 1000 (by omega)
  unfold mg
  exact Int.ediv_le_ediv (by omega) (by omega)
/-- More slack is no more margin. -/
theorem mg_slack {a num s t : Int} (h : s ≤ t) : mg a num t ≤ mg a num s := by
  have h1 := cl_mono (lo := 0) (hi := 1048576) h
  have h2 := cl_in num 0 1000 (by omega)
  unfold mg
  exact Int.ediv_le_ediv (by omega) (by omega)
theorem ediv_anti {x p q : Int} (hx : 0 ≤ x) (hp : 0 < p) (h : p ≤ q) : x / q ≤ x / p := by
  rw [Int.le_ediv_iff_mul_le hp]
  have h1 := Int.ediv_mul_le x (show q ≠ 0 by omega)
  have h2 : x / q * p ≤ x / q * q := Int.mul_le_mul_of_nonneg_left h (Int.ediv_nonneg hx (by omega))
  omega
/-- More drift is no more margin. -/
theorem mg_num {a n m s : Int} (h : n ≤ m) : mg a m s ≤ mg a n s := by
  have h1 := cl_mono (lo := 0) (hi := 1000) h
  have h2 := cl_in n 0 1000 (by omega)
  unfold mg
  exact ediv_anti (by omega) (by omega) (by omega)
theorem mg_le {a num slack : Int} (h0 : 0 ≤ a) (h : a ≤ 1099511627776) : mg a num slack ≤ a := by
  have h1 := cl_in num 0 1000 (by omega)
  have h2 := cl_in slack 0 1048576 (by omega)
  have h3 : mg a num slack ≤ 100 * max (cl a 0 1099511627776 - cl slack 0 1048576) 0 / 100 := by
    unfold mg; exact ediv_anti (by omega) (by omega) (by omega)
  rw [cl_id a 0 1099511627776 h0 h] at h3
  omega
theorem mg_bare {a : Int} (h0 : 0 ≤ a) (h : a ≤ 1099511627776) : mg a 0 0 = a := by
  unfold mg
  rw [cl_id a 0 1099511627776 h0 h, show cl 0 0 1048576 = 0 from rfl, show cl 0 0 1000 = 0 from rfl]
  omega

set_option maxRecDepth 100000 in
set_option maxHeartbeats 2000000 in
theorem margins_any (a b num slack more : Int) (w : World) (ha : 0 ≤ a ∧ a ≤ 4294967295) (hb : 0 ≤ b ∧ b ≤ 4294967295) (hn : 0 ≤ num ∧ num ≤ 255) (hs : 0 ≤ slack ∧ slack ≤ 255) (hm : 0 ≤ more ∧ more ≤ 255) :
    Calls Try.prog 8 #[.int .u32 a, .int .u32 b, .int .u8 num, .int .u8 slack, .int .u8 more] w fun e w' => e = .returned (.bool true) ∧ Below w.heap.size w w' := by
  obtain ⟨ha0, ha1⟩ := ha
  obtain ⟨hb0, hb1⟩ := hb
  obtain ⟨hn0, hn1⟩ := hn
  obtain ⟨hs0, hs1⟩ := hs
  obtain ⟨hm0, hm1⟩ := hm
  rcases Int.lt_trichotomy a b with hab | rfl | hab
  · skip
    have t1 : mg a num slack ≤ mg b num slack := mg_lease (by omega)
    have t2 : mg a (num + more) slack ≤ mg a num slack := mg_num (by omega)
    have t3 : mg a num (slack + more) ≤ mg a num slack := mg_slack (by omega)
    have t4 : mg a num slack ≤ a := mg_le ha0 (by omega)
    have t5 := mg_bare ha0 (by omega)
    have t6 := mg_ten
    have HB := Below.refl w.heap.size w
    go_enter Try.func8, Try.ntmps8
    go_wp2_with (first
      | (go_at_call 19; refine (margin_any _ _ _ _).mono ?_; rintro e w' ⟨rfl, hb⟩; replace HB := HB.trans (hb.mono HB.size); clear hb)
      | (go_at_call 20; refine (rmargin_any _ _ _ _).mono ?_; rintro e w' ⟨rfl, rfl⟩))
    go_ret
    exact ⟨rfl, HB⟩
  · skip
    have t1 : mg a num slack ≤ mg a num slack := mg_lease (by omega)
    have t2 : mg a (num + more) slack ≤ mg a num slack := mg_num (by omega)
    have t3 : mg a num (slack + more) ≤ mg a num slack := mg_slack (by omega)
    have t4 : mg a num slack ≤ a := mg_le ha0 (by omega)
    have t5 := mg_bare ha0 (by omega)
    have t6 := mg_ten
    have HB := Below.refl w.heap.size w
    go_enter Try.func8, Try.ntmps8
    go_wp2_with (first
      | (go_at_call 19; refine (margin_any _ _ _ _).mono ?_; rintro e w' ⟨rfl, hb⟩; replace HB := HB.trans (hb.mono HB.size); clear hb)
      | (go_at_call 20; refine (rmargin_any _ _ _ _).mono ?_; rintro e w' ⟨rfl, rfl⟩))
    go_ret
    exact ⟨rfl, HB⟩
  · skip
    have t1 : mg b num slack ≤ mg a num slack := mg_lease (by omega)
    have t2 : mg b (num + more) slack ≤ mg b num slack := mg_num (by omega)
    have t3 : mg b num (slack + more) ≤ mg b num slack := mg_slack (by omega)
    have t4 : mg b num slack ≤ b := mg_le hb0 (by omega)
    have t5 := mg_bare hb0 (by omega)
    have t6 := mg_ten
    have HB := Below.refl w.heap.size w
    go_enter Try.func8, Try.ntmps8
    go_wp2_with (first
      | (go_at_call 19; refine (margin_any _ _ _ _).mono ?_; rintro e w' ⟨rfl, hb⟩; replace HB := HB.trans (hb.mono HB.size); clear hb)
      | (go_at_call 20; refine (rmargin_any _ _ _ _).mono ?_; rintro e w' ⟨rfl, rfl⟩))
    go_ret
    exact ⟨rfl, HB⟩
end Go.Proofs.Ytdkkoeiceaolnaa
