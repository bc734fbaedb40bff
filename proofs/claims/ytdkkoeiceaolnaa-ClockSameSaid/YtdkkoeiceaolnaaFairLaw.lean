/-
  ClockFair, walked; what the other laws on histories need, too.
-/
import Derived.Test.YtdkkoeiceaolnaaFair
import Derived.Test.YtdkkoeiceaolnaaMargin
namespace Go.Proofs.Ytdkkoeiceaolnaa
open Go.RowKit

theorem below_then {w w1 w2 : World} (h : Below w.heap.size w w1) (h' : Below w1.heap.size w1 w2) : Below w.heap.size w w2 := h.trans (h'.mono h.size)
theorem heavy_yes (A : Option Addr) (n c : Nat) (w : World) (h : 30 < n) :
    Calls Try.prog 16 #[.slice A n c] w fun e w' => e = .returned (.bool true) ∧ w = w' := by
  have hn : (30 : Int) < (n : Int) := by omega
  go_enter Try.func16, Try.ntmps16
  go_wp2
  go_ret
  exact ⟨rfl, rfl⟩
theorem heavy_no (A : Option Addr) (n c : Nat) (w : World) (h : n ≤ 30) :
    Calls Try.prog 16 #[.slice A n c] w fun e w' => e = .returned (.bool false) ∧ w = w' := by
  have hn : ¬ ((30 : Int) < (n : Int)) := by omega
  go_enter Try.func16, Try.ntmps16
  go_wp2
  go_ret
  exact ⟨rfl, rfl⟩
theorem fairV_is (o : Option (Nat × Nat)) : ∃ x y : Nat, fairV o = .tuple #[.int .i64 (x : Int), .int .i64 (y : Int), .bool o.isNone] := by
  cases o with
  | none => exact ⟨0, 0, rfl⟩
  | some p => exact ⟨p.1, p.2, rfl⟩
theorem margin_ten (w : World) : Calls Try.prog 19 #[.int .i64 10, .int .i64 0, .int .i64 0] w fun e w' => e = .returned (.int .i64 10) ∧ Below w.heap.size w w' :=
  (margin_any 10 0 0 w).mono fun e w' ⟨he, hb⟩ => ⟨by rw [he, mg_ten], hb⟩

/-- The history of one row, 1 and 0. -/
def odd (_ c : Nat) : Int := if c = 0 then 1 else 0
theorem odd_first : fst? odd 1 (cl 2 1 8).toNat (cl 0 0 1000) (cl 0 0 1048576) = some (0, 0) := by
  refine fst_some (pre := []) ⟨[], rfl⟩ (fun p hp => by cases hp) ⟨0, by decide, 1, by decide, ?_⟩
  show (100 + cl 0 0 1000) * way odd 0 0 1 + 100 * cl 0 0 1048576 < 100 * way odd 0 0 0
  decide
theorem fair_odd (w : World) : Calls Try.prog 17 #[.slice (some ⟨w.heap.size + 1, 0, none⟩) 1 1, .int .i64 2, .int .i64 0, .int .i64 0]
    ((w.alloc (.cells #[.int .i64 1, .int .i64 0] 3)).alloc (.cells #[.slice (some ⟨w.heap.size, 0, none⟩) 2 2] 28))
    fun e w' => e = .returned (.tuple #[.int .i64 0, .int .i64 0, .bool false]) ∧ Below w.heap.size w w' := by
  have hb : Below w.heap.size w ((w.alloc (.cells #[.int .i64 1, .int .i64 0] 3)).alloc (.cells #[.slice (some ⟨w.heap.size, 0, none⟩) 2 2] 28)) := by go_grown
  have c0 : ((w.alloc (.cells #[.int .i64 1, .int .i64 0] 3)).alloc (.cells #[.slice (some ⟨w.heap.size, 0, none⟩) 2 2] 28)).cell? ⟨w.heap.size + 1, 0, none⟩ = some (.slice (some ⟨w.heap.size, 0, none⟩) 2 2) := by
    have b := Boxed.new (w.alloc (.cells #[.int .i64 1, .int .i64 0] 3)) 28 (.slice (some ⟨w.heap.size, 0, none⟩) 2 2)
    rw [World.size_alloc] at b
    exact b.cell
  have r := (World.rowIs_alloc w #[.int .i64 1, .int .i64 0] 3 (fun i => .int .i64 (odd 0 i)) (fun i hi => by match i, hi with | 0, _ | 1, _ => rfl)).alloc (.cells #[.slice (some ⟨w.heap.size, 0, none⟩) 2 2] 28)
  have hH : Hist ((w.alloc (.cells #[.int .i64 1, .int .i64 0] 3)).alloc (.cells #[.slice (some ⟨w.heap.size, 0, none⟩) 2 2] 28)) (some ⟨w.heap.size + 1, 0, none⟩) 1 odd := by
    intro q hq
    obtain rfl : q = 0 := by omega
    refine ⟨_, _, _, _, _, odd 0, rfl, c0, by omega, fun i hi => ⟨_, _, rfl, ?_⟩, fun i hi => ?_, fun i hi => ?_⟩
    · rw [Nat.zero_add]; exact r.cell hi
    · match i, hi with
      | 0, _ | 1, _ => rfl
    · unfold odd; rw [if_neg (by omega)]
  refine (fair_any _ 1 1 odd 2 0 0 _ hH (by omega)).mono fun e w' ⟨he, hb'⟩ => ⟨?_, below_then hb hb'⟩
  rw [he, odd_first]
  rfl

set_option maxRecDepth 100000 in
set_option maxHeartbeats 2000000 in
theorem fairLaw_any (A : Option Addr) (n c : Nat) (T : Nat → Nat → Int) (k0 num slack lease : Int) (w : World) (_hc : n ≤ 9223372036854775807) (_hs : n ≤ c) (h : Hist w A n T) :
    Calls Try.prog 4 #[.slice A n c, .int .i64 k0, .int .i64 num, .int .i64 slack, .int .i64 lease] w fun e w' => e = .returned (.bool true) ∧ Below w.heap.size w w' := by
  by_cases hn : n ≤ 30
  · obtain ⟨x, y, hv⟩ := fairV_is (fst? T n (cl k0 1 8).toNat (cl num 0 1000) (cl slack 0 1048576))
    have hf := fair_any A n c T k0 num slack w h (by omega)
    have hr := fun w1 (hb : Below w.heap.size w w1) => rfair_any A n c T k0 num slack w1 (h.below hb (Nat.le_refl _)) (by omega)
    rw [hv] at hf
    simp only [hv] at hr
    generalize (fst? T n (cl k0 1 8).toNat (cl num 0 1000) (cl slack 0 1048576)).isNone = ok at hf hr
    have HF := Lib.hid hf
    have HR := Lib.hid hr
    have HH := Lib.hid (fun w => heavy_no A n c w hn)
    have HT := Lib.hid margin_ten
    have HO := Lib.hid fair_odd
    have HM := Lib.hid (fun w => margin_any lease num slack w)
    have HN := Lib.hid (fun w => rmargin_any lease num slack w)
    generalize mg lease num slack = m at HM HN
    clear hf hr h hv
    go_enter Try.func4, Try.ntmps4
    go_wp2_with (first
      | (go_at_call 16; refine (HH.out _).mono ?_; rintro e w' ⟨rfl, rfl⟩)
      | (go_at_call 17; (with_reducible refine HF.out.mono ?_); rintro e w1 ⟨rfl, hb1⟩; have KB1 := Lib.hid hb1; clear hb1)
      | (go_at_call 18; refine (HR.out _ KB1.out).mono ?_; rintro e w2 ⟨rfl, rfl⟩)
      | (go_at_call 17; refine (HO.out _).mono ?_; rintro e w3 ⟨rfl, hb3⟩; have KB3 := Lib.hid hb3; clear hb3)
      | (go_at_call 19; (with_reducible refine (HT.out _).mono ?_); rintro e w5 ⟨rfl, hb5⟩; have KB5 := Lib.hid hb5; clear hb5)
      | (go_at_call 19; (with_reducible refine (HM.out _).mono ?_); rintro e w4 ⟨rfl, hb4⟩; have KB4 := Lib.hid hb4; clear hb4)
      | (go_at_call 20; (with_reducible refine (HN.out _).mono ?_); rintro e w4' ⟨rfl, rfl⟩))
    go_ret
    exact ⟨rfl, below_then (below_then (below_then KB1.out KB3.out) KB4.out) KB5.out⟩
  · have HH := Lib.hid (fun w => heavy_yes A n c w (by omega))
    clear h
    go_enter Try.func4, Try.ntmps4
    go_wp2_with (go_at_call 16; refine (HH.out _).mono ?_; rintro e w' ⟨rfl, rfl⟩)
    go_ret
    exact ⟨rfl, Below.refl _ _⟩
end Go.Proofs.Ytdkkoeiceaolnaa
