/-
  ClockParts, walked.
-/
import Derived.Test.YtdkkoeiceaolnaaLease
namespace Go.Proofs.Ytdkkoeiceaolnaa
open Go.RowKit

theorem sm_part (T : Nat → Nat → Int) (a c m : Nat) : sm (fun r => T (a + r)) c m = sm T c (a + m) - sm T c a := by
  induction m with
  | zero => simp [sm]
  | succ m ih => rw [show a + (m + 1) = a + m + 1 from rfl]; simp only [sm, ih]; omega
theorem way_part (T : Nat → Nat → Int) (a x y c : Nat) : way (fun r => T (a + r)) x y c = way T (a + x) (a + y) c := by
  unfold way
  rw [sm_part, sm_part, show a + (y + 1) = a + y + 1 from rfl]
  omega
theorem unf_part {T : Nat → Nat → Int} {k : Nat} {num slack : Int} {a x y : Nat} (h : Unf (fun r => T (a + r)) k num slack x y) : Unf T k num slack (a + x) (a + y) := by
  obtain ⟨i, hi, j, hj, ho⟩ := h
  refine ⟨i, hi, j, hj, ?_⟩
  unfold outr at ho ⊢
  rw [way_part, way_part] at ho
  exact ho
theorem unf_more {T : Nat → Nat → Int} {n k : Nat} {num num' slack slack' : Int} {a b : Nat} (hT : TkOk T n) (hab : a ≤ b) (hb : b < n) (hn : n ≤ 31) (h1 : num ≤ num') (h2 : slack ≤ slack') (h : Unf T k num' slack' a b) : Unf T k num slack a b := by
  obtain ⟨i, hi, j, hj, ho⟩ := h
  refine ⟨i, hi, j, hj, ?_⟩
  unfold outr at ho ⊢
  have h3 := way_bound hT (c := j) hab hb hn
  have h4 : num * way T a b j ≤ num' * way T a b j := Int.mul_le_mul_of_nonneg_right h1 h3.1
  rw [Int.add_mul] at ho ⊢
  omega
theorem hist_part {w : World} {ab ao n : Nat} {T : Nat → Nat → Int} (h : Hist w (some ⟨ab, ao, none⟩) n T) {a m : Nat} (hm : a + m ≤ n) : Hist w (some ⟨ab, ao + a, none⟩) m (fun r => T (a + r)) := by
  intro r hr
  obtain ⟨ab', ao', B, L, C, z, e, hx, hl⟩ := h (a + r) (by omega)
  cases e
  exact ⟨_, _, B, L, C, z, rfl, by rw [Nat.add_assoc]; exact hx, hl⟩
theorem fair_more {A : Option Addr} {n : Nat} (c : Nat) {T : Nat → Nat → Int} (k0 : Int) {num num' slack slack' : Int} {w : World} (h : Hist w A n T) (hn : n ≤ 31)
    (hf : (fst? T n (cl k0 1 8).toNat (cl num 0 1000) (cl slack 0 1048576)).isNone = true) (h1 : cl num 0 1000 ≤ cl num' 0 1000) (h2 : cl slack 0 1048576 ≤ cl slack' 0 1048576) :
    Calls Try.prog 17 #[.slice A n c, .int .i64 k0, .int .i64 num', .int .i64 slack'] w fun e w' => e = .returned (.tuple #[.int .i64 0, .int .i64 0, .bool true]) ∧ Below w.heap.size w w' := by
  refine (fair_any A n c T k0 num' slack' w h hn).mono fun e w' ⟨he, hb⟩ => ⟨?_, hb⟩
  have hk := fst_fair hf
  rw [he, fst_none (fun p hp => fun hu => hk p.1 p.2 (mem_wins.1 hp).1 (mem_wins.1 hp).2 (unf_more h.ok (mem_wins.1 hp).1 (mem_wins.1 hp).2 hn h1 h2 hu))]
  rfl
theorem fair_part {ab ao n : Nat} (m c : Nat) {T : Nat → Nat → Int} (k0 num slack : Int) {w : World} (h : Hist w (some ⟨ab, ao, none⟩) n T) (hn : n ≤ 31)
    (hf : (fst? T n (cl k0 1 8).toNat (cl num 0 1000) (cl slack 0 1048576)).isNone = true) (a : Nat) (hm : a + m ≤ n) :
    Calls Try.prog 17 #[.slice (some ⟨ab, ao + a, none⟩) m c, .int .i64 k0, .int .i64 num, .int .i64 slack] w fun e w' => e = .returned (.tuple #[.int .i64 0, .int .i64 0, .bool true]) ∧ Below w.heap.size w w' := by
  refine (fair_any _ m c _ k0 num slack w (hist_part h hm) (by omega)).mono fun e w' ⟨he, hb⟩ => ⟨?_, hb⟩
  have hk := fst_fair hf
  rw [he, fst_none (fun p hp => fun hu => hk (a + p.1) (a + p.2) (by have := mem_wins.1 hp; omega) (by have := mem_wins.1 hp; omega) (unf_part hu))]
  rfl

set_option maxRecDepth 100000 in
set_option maxHeartbeats 4000000 in
theorem parts_any (A : Option Addr) (n c : Nat) (T : Nat → Nat → Int) (k0 num slack fr to' : Int) (w : World) (hc : n ≤ 9223372036854775807) (hs : n ≤ c) (h : Hist w A n T) (hp : 0 ≤ fr ∧ fr ≤ 255) (hq : 0 ≤ to' ∧ to' ≤ 255) :
    Calls Try.prog 5 #[.slice A n c, .int .i64 k0, .int .i64 num, .int .i64 slack, .int .u8 fr, .int .u8 to'] w fun e w' => e = .returned (.bool true) ∧ Below w.heap.size w w' := by
  have HT := Lib.hid margin_ten
  by_cases hn : n ≤ 30
  · have HH := Lib.hid (fun w => heavy_no A n c w hn)
    by_cases hz : n = 0
    · subst hz
      clear h
      go_enter Try.func5, Try.ntmps5
      go_wp2_with (first
        | (go_at_call 16; refine (HH.out _).mono ?_; rintro e w' ⟨rfl, rfl⟩)
        | (go_at_call 19; (with_reducible refine (HT.out _).mono ?_); rintro e w5 ⟨rfl, hb5⟩; have KB5 := Lib.hid hb5; clear hb5))
      go_ret
      exact ⟨rfl, KB5.out⟩
    · have hzI : ¬ ((n : Int) = 0) := by omega
      obtain ⟨ab, ao, _, _, _, _, rfl, _, _⟩ := h 0 (by omega)
      obtain ⟨x, y, hv⟩ := fairV_is (fst? T n (cl k0 1 8).toNat (cl num 0 1000) (cl slack 0 1048576))
      have hf := fair_any _ n c T k0 num slack w h (by omega)
      have hr := fun w1 (hb : Below w.heap.size w w1) => rfair_any _ n c T k0 num slack w1 (h.below hb (Nat.le_refl _)) (by omega)
      rw [hv] at hf
      simp only [hv] at hr
      cases hok : (fst? T n (cl k0 1 8).toNat (cl num 0 1000) (cl slack 0 1048576)).isNone with
      | false =>
        rw [hok] at hf hr
        have HF := Lib.hid hf
        have HR := Lib.hid hr
        clear hf hr h hv hok
        go_enter Try.func5, Try.ntmps5
        go_wp2_with (first
          | (go_at_call 16; refine (HH.out _).mono ?_; rintro e w' ⟨rfl, rfl⟩)
          | (go_at_call 17; (with_reducible refine HF.out.mono ?_); rintro e w1 ⟨rfl, hb1⟩; have KB1 := Lib.hid hb1; clear hb1)
          | (go_at_call 18; refine (HR.out _ KB1.out).mono ?_; rintro e w2 ⟨rfl, rfl⟩)
          | (go_at_call 19; (with_reducible refine (HT.out _).mono ?_); rintro e w5 ⟨rfl, hb5⟩; have KB5 := Lib.hid hb5; clear hb5))
        go_ret
        exact ⟨rfl, below_then KB1.out KB5.out⟩
      | true =>
        have HP := Lib.hid (fun m c a (hm : a + m ≤ n) w1 (hb : Below w.heap.size w w1) => fair_part m c k0 num slack (h.below hb (Nat.le_refl _)) (by omega) hok a hm)
        have HW := Lib.hid (fun num' (h1 : cl num 0 1000 ≤ cl num' 0 1000) w1 (hb : Below w.heap.size w w1) => fair_more c k0 (h.below hb (Nat.le_refl _)) (by omega) hok h1 (Int.le_refl _))
        have HL := Lib.hid (fun slack' (h1 : cl slack 0 1048576 ≤ cl slack' 0 1048576) w1 (hb : Below w.heap.size w w1) => fair_more c k0 (h.below hb (Nat.le_refl _)) (by omega) hok (Int.le_refl _) h1)
        rw [hok] at hf hr
        have HF := Lib.hid hf
        have HR := Lib.hid hr
        clear hf hr h hv hok
        obtain ⟨p, rfl⟩ : ∃ p : Nat, fr = p := ⟨fr.toNat, by omega⟩
        obtain ⟨q, rfl⟩ : ∃ q : Nat, to' = q := ⟨to'.toNat, by omega⟩
        obtain ⟨hp0, hp1⟩ := hp
        obtain ⟨hq0, hq1⟩ := hq
        have hA : (p : Int).tmod (n : Int) = ((p % n : Nat) : Int) := (Int.ofNat_tmod p n).symm
        have hB : (q : Int).tmod (n : Int) = ((q % n : Nat) : Int) := (Int.ofNat_tmod q n).symm
        have ha : p % n < n := Nat.mod_lt _ (by omega)
        have hb : q % n < n := Nat.mod_lt _ (by omega)
        generalize p % n = a at hA ha
        generalize q % n = b at hB hb
        by_cases hab : b < a
        · have hP0 : (∀ w1, Below w.heap.size w w1 → Calls Try.prog 17 #[.slice (some ⟨ab, ao, none⟩) (b + 1) c, .int .i64 k0, .int .i64 num, .int .i64 slack] w1 fun e w' => e = .returned (.tuple #[.int .i64 0, .int .i64 0, .bool true]) ∧ Below w1.heap.size w1 w') := (fun w1 hb1 => HP.out (b + 1) c 0 (by omega) w1 hb1)
          have HP0 := Lib.hid hP0
          clear HP hP0
          go_enter Try.func5, Try.ntmps5
          go_wp2_with (first
            | (go_at_call 16; refine (HH.out _).mono ?_; rintro e w' ⟨rfl, rfl⟩)
            | (go_at_call 17; (with_reducible refine HF.out.mono ?_); rintro e w1 ⟨rfl, hb1⟩; have KB1 := Lib.hid hb1; clear hb1)
            | (go_at_call 18; refine (HR.out _ KB1.out).mono ?_; rintro e w2 ⟨rfl, rfl⟩)
            | (go_at_call 17; (with_reducible refine (HP0.out _ KB1.out).mono ?_); rintro e w3 ⟨rfl, hb3⟩; have KB3 := Lib.hid (below_then KB1.out hb3); clear hb3)
            | (go_at_call 17; (with_reducible refine (HW.out _ ?hw _ KB3.out).mono ?_); (case hw => unfold cl; omega); rintro e w4 ⟨rfl, hb4⟩; have KB4 := Lib.hid (below_then KB3.out hb4); clear hb4)
            | (go_at_call 17; (with_reducible refine (HL.out _ ?hw _ KB4.out).mono ?_); (case hw => unfold cl; omega); rintro e w5 ⟨rfl, hb5⟩; have KB5 := Lib.hid (below_then KB4.out hb5); clear hb5)
            | (go_at_call 19; (with_reducible refine (HT.out _).mono ?_); rintro e w6 ⟨rfl, hb6⟩; have KB6 := Lib.hid (below_then KB5.out hb6); clear hb6))
          all_goals
            go_ret
            exact ⟨rfl, KB6.out⟩
        · have HP0 := Lib.hid (fun w1 hb1 => HP.out (b + 1 - a) (c - a) a (by omega) w1 hb1)
          clear HP
          go_enter Try.func5, Try.ntmps5
          go_wp2_with (first
            | (go_at_call 16; refine (HH.out _).mono ?_; rintro e w' ⟨rfl, rfl⟩)
            | (go_at_call 17; (with_reducible refine HF.out.mono ?_); rintro e w1 ⟨rfl, hb1⟩; have KB1 := Lib.hid hb1; clear hb1)
            | (go_at_call 18; refine (HR.out _ KB1.out).mono ?_; rintro e w2 ⟨rfl, rfl⟩)
            | (go_at_call 17; (with_reducible refine (HP0.out _ KB1.out).mono ?_); rintro e w3 ⟨rfl, hb3⟩; have KB3 := Lib.hid (below_then KB1.out hb3); clear hb3)
            | (go_at_call 17; (with_reducible refine (HW.out _ ?hw _ KB3.out).mono ?_); (case hw => unfold cl; omega); rintro e w4 ⟨rfl, hb4⟩; have KB4 := Lib.hid (below_then KB3.out hb4); clear hb4)
            | (go_at_call 17; (with_reducible refine (HL.out _ ?hw _ KB4.out).mono ?_); (case hw => unfold cl; omega); rintro e w5 ⟨rfl, hb5⟩; have KB5 := Lib.hid (below_then KB4.out hb5); clear hb5)
            | (go_at_call 19; (with_reducible refine (HT.out _).mono ?_); rintro e w6 ⟨rfl, hb6⟩; have KB6 := Lib.hid (below_then KB5.out hb6); clear hb6))
          all_goals
            go_ret
            exact ⟨rfl, KB6.out⟩
  · have HH := Lib.hid (fun w => heavy_yes A n c w (by omega))
    clear h
    go_enter Try.func5, Try.ntmps5
    go_wp2_with (first
      | (go_at_call 16; refine (HH.out _).mono ?_; rintro e w' ⟨rfl, rfl⟩)
      | (go_at_call 19; (with_reducible refine (HT.out _).mono ?_); rintro e w5 ⟨rfl, hb5⟩; have KB5 := Lib.hid hb5; clear hb5))
    go_ret
    exact ⟨rfl, KB5.out⟩
end Go.Proofs.Ytdkkoeiceaolnaa
