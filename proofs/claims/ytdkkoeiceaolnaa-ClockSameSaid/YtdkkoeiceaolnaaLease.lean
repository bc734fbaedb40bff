/-
  ClockMargin, walked.
-/
import Derived.Test.YtdkkoeiceaolnaaFairLaw
import Derived.Test.YtdkkoeiceaolnaaMargins
namespace Go.Proofs.Ytdkkoeiceaolnaa
open Go.RowKit

theorem fst_fair {T : Nat → Nat → Int} {m k : Nat} {num slack : Int} (h : (fst? T m k num slack).isNone = true) : ∀ a b, a ≤ b → b < m → ¬ Unf T k num slack a b := by
  intro a b hab hb hu
  unfold fst? at h
  rw [Option.isNone_iff_eq_none, List.find?_eq_none] at h
  exact h (a, b) (mem_wins.2 ⟨hab, hb⟩) (unf_iff.2 hu)
theorem fst_fair_of {T : Nat → Nat → Int} {m k : Nat} {num slack : Int} (h : ∀ a b, a ≤ b → b < m → ¬ Unf T k num slack a b) : (fst? T m k num slack).isNone = true := by
  rw [Option.isNone_iff_eq_none]
  exact fst_none fun p hp => h p.1 p.2 (mem_wins.1 hp).1 (mem_wins.1 hp).2
/-- While a client's clock has gone at most the margin on, the service's has gone at most the lease on. -/
theorem lease_safe {T : Nat → Nat → Int} {n a b : Nat} {num slack lease : Int} (h : (fst? T n (cl 2 1 8).toNat (cl num 0 1000) (cl slack 0 1048576)).isNone = true) (hab : a ≤ b) (hb : b < n)
    (l0 : 0 ≤ lease) (l1 : lease ≤ 1099511627776) (hs : cl slack 0 1048576 ≤ lease) (hw : way T a b 0 ≤ mg lease num slack) : way T a b 1 ≤ lease := by
  have hu := fst_fair h a b hab hb
  have ho : ¬ outr T (cl num 0 1000) (cl slack 0 1048576) a b 1 0 := fun ho => hu ⟨1, by decide, 0, by decide, ho⟩
  unfold outr at ho
  have h1 := cl_in num 0 1000 (by omega)
  have h2 := cl_in slack 0 1048576 (by omega)
  unfold mg at hw
  rw [cl_id lease 0 1099511627776 l0 l1] at hw
  have h3 := Int.ediv_mul_le (100 * max (lease - cl slack 0 1048576) 0) (show 100 + cl num 0 1000 ≠ 0 by omega)
  have h4 : (100 + cl num 0 1000) * way T a b 0 ≤ (100 + cl num 0 1000) * (100 * max (lease - cl slack 0 1048576) 0 / (100 + cl num 0 1000)) := Int.mul_le_mul_of_nonneg_left hw (by omega)
  rw [Int.mul_comm (100 + cl num 0 1000) (100 * max (lease - cl slack 0 1048576) 0 / (100 + cl num 0 1000))] at h4
  omega

set_option maxRecDepth 100000 in
set_option maxHeartbeats 2000000 in
theorem lease_any (A : Option Addr) (n c : Nat) (T : Nat → Nat → Int) (num slack lease : Int) (w : World) (_hc : n ≤ 9223372036854775807) (_hs : n ≤ c) (h : Hist w A n T) :
    Calls Try.prog 6 #[.slice A n c, .int .i64 num, .int .i64 slack, .int .i64 lease] w fun e w' => e = .returned (.bool true) ∧ Below w.heap.size w w' := by
  by_cases hn : n ≤ 30
  · obtain ⟨x, y, hv⟩ := fairV_is (fst? T n (cl 2 1 8).toNat (cl num 0 1000) (cl slack 0 1048576))
    have hf := fair_any A n c T 2 num slack w h (by omega)
    have hr := fun w1 (hb : Below w.heap.size w w1) => rfair_any A n c T 2 num slack w1 (h.below hb (Nat.le_refl _)) (by omega)
    have hy := fun a b i w1 (hb : Below w.heap.size w w1) (hab : a ≤ b) (hbn : b < n) => rway_any A n c T a b i w1 (h.below hb (Nat.le_refl _)) hab hbn (by omega)
    rw [hv] at hf
    simp only [hv] at hr
    have HS := Lib.hid (fun (hk : (fst? T n (cl 2 1 8).toNat (cl num 0 1000) (cl slack 0 1048576)).isNone = true) a b hab hb => lease_safe (a := a) (b := b) (lease := lease) hk hab hb)
    have HK := Lib.hid h.ok
    have hml : 0 ≤ lease → lease ≤ 1099511627776 → mg lease num slack ≤ lease := fun h0 h1 => mg_le h0 h1
    have HM := Lib.hid (fun w => margin_any lease num slack w)
    generalize (fst? T n (cl 2 1 8).toNat (cl num 0 1000) (cl slack 0 1048576)).isNone = ok at hf hr HS
    generalize mg lease num slack = m at HM HS hml
    have HF := Lib.hid hf
    have HR := Lib.hid hr
    have HY := Lib.hid hy
    have HH := Lib.hid (fun w => heavy_no A n c w hn)
    have HT := Lib.hid margin_ten
    clear hf hr h hv hy
    obtain ⟨t, ht⟩ : ∃ t, cl slack 0 1048576 = t := ⟨_, rfl⟩
    rw [ht] at HS
    have t0 : 0 ≤ t ∧ t ≤ 1048576 := by rw [← ht]; exact cl_in _ _ _ (by omega)
    obtain ⟨t0, t1⟩ := t0
    have HTt := Lib.hid ht
    clear ht
    cases ok with
    | false =>
      clear HS hml
      go_enter Try.func6, Try.ntmps6
      go_wp2_with (first
        | (go_at_call 16; refine (HH.out _).mono ?_; rintro e w' ⟨rfl, rfl⟩)
        | (go_at_call 17; (with_reducible refine HF.out.mono ?_); rintro e w1 ⟨rfl, hb1⟩; have KB1 := Lib.hid hb1; clear hb1)
        | (go_at_call 18; refine (HR.out _ KB1.out).mono ?_; rintro e w2 ⟨rfl, rfl⟩)
        | (go_at_call 19; (with_reducible refine (HT.out _).mono ?_); rintro e w5 ⟨rfl, hb5⟩; have KB5 := Lib.hid hb5; clear hb5)
        | (go_at_call 19; (with_reducible refine (HM.out _).mono ?_); rintro e w4 ⟨rfl, hb4⟩; have KB4 := Lib.hid hb4; clear hb4))
      go_ret
      exact ⟨rfl, below_then (below_then KB1.out KB4.out) KB5.out⟩
    | true =>
      by_cases hbad : lease < 0 ∨ 1099511627776 < lease
      · clear HS hml
        rcases hbad with hbad | hbad
        all_goals
          go_enter Try.func6, Try.ntmps6
          go_wp2_with (first
            | (go_at_call 16; refine (HH.out _).mono ?_; rintro e w' ⟨rfl, rfl⟩)
            | (go_at_call 17; (with_reducible refine HF.out.mono ?_); rintro e w1 ⟨rfl, hb1⟩; have KB1 := Lib.hid hb1; clear hb1)
            | (go_at_call 18; refine (HR.out _ KB1.out).mono ?_; rintro e w2 ⟨rfl, rfl⟩)
            | (go_at_call 19; (with_reducible refine (HT.out _).mono ?_); rintro e w5 ⟨rfl, hb5⟩; have KB5 := Lib.hid hb5; clear hb5)
            | (go_at_call 19; (with_reducible refine (HM.out _).mono ?_); rintro e w4 ⟨rfl, hb4⟩; have KB4 := Lib.hid hb4; clear hb4))
          go_ret
          exact ⟨rfl, below_then (below_then KB1.out KB4.out) KB5.out⟩
      · have l0 : 0 ≤ lease := by omega
        have l1 : lease ≤ 1099511627776 := by omega
        have hm := hml l0 l1
        clear hml hbad
        go_enter Try.func6, Try.ntmps6
        go_wp2_with (first
            | (go_at_call 16; refine (HH.out _).mono ?_; rintro e w' ⟨rfl, rfl⟩)
            | (go_at_call 17; (with_reducible refine HF.out.mono ?_); rintro e w1 ⟨rfl, hb1⟩; have KB1 := Lib.hid hb1; clear hb1)
            | (go_at_call 18; refine (HR.out _ KB1.out).mono ?_; rintro e w2 ⟨rfl, rfl⟩)
            | (go_at_call 19; (with_reducible refine (HT.out _).mono ?_); rintro e w5 ⟨rfl, hb5⟩; have KB5 := Lib.hid hb5; clear hb5)
            | (go_at_call 19; (with_reducible refine (HM.out _).mono ?_); rintro e w4 ⟨rfl, hb4⟩; have KB4 := Lib.hid hb4; clear hb4))
        all_goals first
          | (go_ret; exact ⟨rfl, below_then (below_then KB1.out KB4.out) KB5.out⟩)
          | skip
        all_goals
          have htl : t ≤ lease := by have := HTt.out; unfold cl at this; omega
          have KBx := Lib.hid (below_then KB1.out KB4.out)
          have HSx := Lib.hid (fun a b hab hb => HS.out (by simp) a b hab hb l0 l1 htl)
          clear HS HTt KB1 KB4
          go_loop [16] (fun v => ∃ a : Nat, a ≤ n ∧ v = .int .i64 a) (fun v => n - (intOf v).toNat)
          case atStart => exact ⟨0, Nat.zero_le _, rfl⟩
          case round =>
            obtain ⟨a, ha, rfl⟩ := hrel
            by_cases han : a < n
            · have haI : (a : Int) < (n : Int) := by omega
              go_wp2
              go_loop [17] (fun v => ∃ b : Nat, a ≤ b ∧ b ≤ n ∧ v = .int .i64 b) (fun v => n - (intOf v).toNat)
              case atStart => exact ⟨a, Nat.le_refl _, by omega, rfl⟩
              case round =>
                obtain ⟨b, hab, hb, rfl⟩ := hrel
                by_cases hbn : b < n
                · have hbI : (b : Int) < (n : Int) := by omega
                  have hsafe := HSx.out a b hab hbn
                  have HY0 : Calls Try.prog 21 #[.slice A n c, .int .i64 a, .int .i64 b, .int .i64 0] w4 fun e w' => e = .returned (.int .i64 (way T a b 0)) ∧ w4 = w' := HY.out a b 0 _ KBx.out hab hbn
                  have HY1 : Calls Try.prog 21 #[.slice A n c, .int .i64 a, .int .i64 b, .int .i64 1] w4 fun e w' => e = .returned (.int .i64 (way T a b 1)) ∧ w4 = w' := HY.out a b 1 _ KBx.out hab hbn
                  generalize way T a b 0 = x0 at HY0 hsafe
                  generalize way T a b 1 = x1 at HY1 hsafe
                  by_cases hw : x0 ≤ m
                  · have hw1 := hsafe hw
                    have hw2 : ¬ (lease < x1) := by omega
                    clear hsafe
                    go_wp2_with (first
                      | (go_at_call 21; (with_reducible refine HY0.mono ?_); rintro e w' ⟨rfl, rfl⟩)
                      | (go_at_call 21; (with_reducible refine HY1.mono ?_); rintro e w' ⟨rfl, rfl⟩))
                    go_round
                    case rel => exact ⟨b + 1, by omega, by omega, by go_num⟩
                    case measure => simp [intOf]; omega
                  · clear hsafe
                    go_wp2_with (first
                      | (go_at_call 21; (with_reducible refine HY0.mono ?_); rintro e w' ⟨rfl, rfl⟩)
                      | (go_at_call 21; (with_reducible refine HY1.mono ?_); rintro e w' ⟨rfl, rfl⟩))
                    go_round
                    case rel => exact ⟨b + 1, by omega, by omega, by go_num⟩
                    case measure => simp [intOf]; omega
                · have hbI : ¬ ((b : Int) < (n : Int)) := by omega
                  go_wp2
                  go_round
                  case rel => exact ⟨a + 1, by omega, by go_num⟩
                  case measure => simp [intOf]; omega
            · have haI : ¬ ((a : Int) < (n : Int)) := by omega
              go_wp2_with (go_at_call 19; (with_reducible refine (HT.out _).mono ?_); rintro e w5 ⟨rfl, hb5⟩; have KB5 := Lib.hid hb5; clear hb5)
              go_ret
              exact ⟨rfl, below_then KBx.out KB5.out⟩
  · have HH := Lib.hid (fun w => heavy_yes A n c w (by omega))
    clear h
    go_enter Try.func6, Try.ntmps6
    go_wp2_with (go_at_call 16; refine (HH.out _).mono ?_; rintro e w' ⟨rfl, rfl⟩)
    go_ret
    exact ⟨rfl, Below.refl _ _⟩
end Go.Proofs.Ytdkkoeiceaolnaa
