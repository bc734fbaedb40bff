/-
  The document's own Way, outrun and Fair (weirkeepref05), by contracts.
-/
import Derived.Test.YtdkkoeiceaolnaaWays
namespace Go.Proofs.Ytdkkoeiceaolnaa
open Go.RowKit

theorem Hist.ok {w : World} {A : Option Addr} {n : Nat} {T : Nat → Nat → Int} (h : Hist w A n T) : TkOk T n := fun _ hr c => h.bound hr c

set_option maxHeartbeats 1000000 in
theorem rway_any (A : Option Addr) (n c : Nat) (T : Nat → Nat → Int) (a b i : Nat) (w : World) (h : Hist w A n T) (hab : a ≤ b) (hb : b < n) (hn : n ≤ 31) :
    Calls Try.prog 21 #[.slice A n c, .int .i64 a, .int .i64 b, .int .i64 i] w fun e w' => e = .returned (.int .i64 (way T a b i)) ∧ w = w' := by
  have HH := Lib.hid h
  clear h
  go_enter Try.func21, Try.ntmps21
  go_wp2
  go_loop [9, 10] (fun s v => ∃ j : Nat, a ≤ j ∧ j ≤ b + 1 ∧ v = .int .i64 j ∧ s = .int .i64 (sm T i j - sm T i a)) (fun _ v => b + 1 - (intOf v).toNat)
  case atStart => exact ⟨a, Nat.le_refl _, by omega, rfl, by simp⟩
  case round =>
    obtain ⟨j, hj0, hj1, rfl, rfl⟩ := hrel
    have hs := sm_mono HH.out.ok (c := i) hj0 (show j ≤ n by omega)
    obtain ⟨hs0, hs1⟩ := hs
    by_cases hjb : j ≤ b
    · obtain ⟨ab, ao, B, L, C, z, rfl, hx, hl⟩ := HH.out j (by omega)
      have hjI : (j : Int) ≤ (b : Int) := by omega
      have hjn : (j : Int) < (n : Int) := by omega
      have hnn : (0 : Int) ≤ (j : Int) := by omega
      have hT := hl.bound i
      obtain ⟨hT0, hT1⟩ := hT
      have hlen := hl.len
      have hsm := Lib.hid (show sm T i (j + 1) = sm T i j + T j i from rfl)
      by_cases hiL : i < L
      · obtain ⟨bb, bo, rfl, hy⟩ := hl.at' i hiL
        have hiI : (i : Int) < (L : Int) := by omega
        have hv := hl.val i hiL
        have HC := Lib.hid (fun w => clamp_any (z i) 1048576 (by omega) w)
        rw [← hv] at HC
        clear hl hv
        generalize T j i = t at HC hsm hT0 hT1
        generalize sm T i a = sa at hs0 hs1 ⊢
        generalize sm T i j = sj at hs0 hs1 hsm ⊢
        go_wp2_with (go_at_call 30; refine (HC.out _).mono ?_; rintro e w' ⟨rfl, rfl⟩)
        go_round
        case rel => exact ⟨j + 1, by omega, by omega, by go_num, by rw [hsm.out]; congr 1; omega⟩
        case measure => simp [intOf]; omega
      · have hiI : ¬ ((i : Int) < (L : Int)) := by omega
        have hv := Lib.hid (hl.out i (by omega))
        clear hl
        go_wp2
        go_round
        case rel => exact ⟨j + 1, by omega, by omega, by go_num, by rw [hsm.out, hv.out]; congr 1; omega⟩
        case measure => simp [intOf]; omega
    · have hjI : ¬ ((j : Int) ≤ (b : Int)) := by omega
      obtain rfl : j = b + 1 := by omega
      go_wp2
      go_ret
      exact ⟨rfl, rfl⟩

theorem mul_bound {num y : Int} (h0 : 0 ≤ num) (h1 : num ≤ 1000) (h2 : 0 ≤ y) (h3 : y ≤ 33554432) : 0 ≤ (100 + num) * y ∧ (100 + num) * y ≤ 36909875200 := by
  have h4 : 0 ≤ num * y := Int.mul_nonneg h0 h2
  have h5 : num * y ≤ 1000 * y := Int.mul_le_mul_of_nonneg_right h1 h2
  rw [Int.add_mul]
  omega
theorem notOut {T : Nat → Nat → Int} {k : Nat} {num slack : Int} {a b : Nat} (h : ∀ i, i < k → ∀ j, j < k → ¬ outr T num slack a b i j) : unf T k num slack a b = false := unf_no fun ⟨i, hi, j, hj, hx⟩ => h i hi j hj hx

set_option maxHeartbeats 1000000 in
theorem outrun_any (A : Option Addr) (n c : Nat) (T : Nat → Nat → Int) (a b k : Nat) (num slack : Int) (w : World) (h : Hist w A n T) (hab : a ≤ b) (hb : b < n) (hn : n ≤ 31)
    (hk : k ≤ 8) (hm0 : 0 ≤ num) (hm1 : num ≤ 1000) (hs0 : 0 ≤ slack) (hs1 : slack ≤ 1048576) :
    Calls Try.prog 31 #[.slice A n c, .int .i64 a, .int .i64 b, .int .i64 k, .int .i64 num, .int .i64 slack] w fun e w' => e = .returned (.bool (unf T k num slack a b)) ∧ w = w' := by
  have HW := Lib.hid (fun i => rway_any A n c T a b i w h hab hb hn)
  have HB := Lib.hid (fun i => way_bound h.ok (c := i) hab hb hn)
  clear h
  go_enter Try.func31, Try.ntmps31
  go_wp2
  go_loop [13] (fun v => ∃ i : Nat, i ≤ k ∧ v = .int .i64 i ∧ ∀ i', i' < i → ∀ j, j < k → ¬ outr T num slack a b i' j) (fun v => k - (intOf v).toNat)
  case atStart => exact ⟨0, Nat.zero_le _, rfl, fun i' hi' => by omega⟩
  case round =>
    obtain ⟨i, hi, rfl, hp⟩ := hrel
    have HP := Lib.hid hp
    clear hp
    by_cases hik : i < k
    · have hiI : (i : Int) < (k : Int) := by omega
      go_wp2
      go_loop [14] (fun v => ∃ j : Nat, j ≤ k ∧ v = .int .i64 j ∧ ∀ j', j' < j → ¬ outr T num slack a b i j') (fun v => k - (intOf v).toNat)
      case atStart => exact ⟨0, Nat.zero_le _, rfl, fun i' hi' => by omega⟩
      case round =>
        obtain ⟨j, hj, rfl, hq⟩ := hrel
        have HQ := Lib.hid hq
        clear hq
        by_cases hjk : j < k
        · have hjI : (j : Int) < (k : Int) := by omega
          obtain ⟨x0, x1⟩ := HB.out i
          obtain ⟨y0, y1⟩ := HB.out j
          obtain ⟨p0, p1⟩ := mul_bound hm0 hm1 y0 y1
          have HWi := HW.out i
          have HWj := HW.out j
          by_cases ho : outr T num slack a b i j
          · have ho' := ho
            unfold outr at ho
            have HU := Lib.hid (unf_iff.2 ⟨i, hik, j, hjk, ho'⟩)
            clear ho'
            generalize way T a b i = x at x0 x1 ho HWi
            generalize way T a b j = y at y0 y1 p0 p1 ho HWj
            go_wp2_with (first
              | (go_at_call 21; (with_reducible refine HWi.mono ?_); rintro e w' ⟨rfl, rfl⟩)
              | (go_at_call 21; (with_reducible refine HWj.mono ?_); rintro e w' ⟨rfl, rfl⟩))
            go_ret
            exact ⟨by rw [HU.out]; rfl, rfl⟩
          · have HO := Lib.hid ho
            unfold outr at ho
            generalize way T a b i = x at x0 x1 ho HWi
            generalize way T a b j = y at y0 y1 p0 p1 ho HWj
            go_wp2_with (first
              | (go_at_call 21; (with_reducible refine HWi.mono ?_); rintro e w' ⟨rfl, rfl⟩)
              | (go_at_call 21; (with_reducible refine HWj.mono ?_); rintro e w' ⟨rfl, rfl⟩))
            go_round
            case rel =>
              refine ⟨j + 1, by omega, by go_num, fun j' hj' => ?_⟩
              rcases Nat.lt_or_ge j' j with hl | hl
              · exact HQ.out j' hl
              · obtain rfl : j' = j := by omega
                exact HO.out
            case measure => simp [intOf]; omega
        · have hjI : ¬ ((j : Int) < (k : Int)) := by omega
          go_wp2
          go_round
          case rel =>
            refine ⟨i + 1, by omega, by go_num, fun i' hi' => ?_⟩
            rcases Nat.lt_or_ge i' i with hl | hl
            · exact HP.out i' hl
            · obtain rfl : i' = i := by omega
              exact fun j' hj' => HQ.out j' (by omega)
          case measure => simp [intOf]; omega
    · have hiI : ¬ ((i : Int) < (k : Int)) := by omega
      go_wp2
      go_ret
      exact ⟨by rw [notOut (fun i' hi' => HP.out i' (by omega))]; rfl, rfl⟩

set_option maxHeartbeats 1000000 in
theorem rfair_any (A : Option Addr) (n c : Nat) (T : Nat → Nat → Int) (k0 num slack : Int) (w : World) (h : Hist w A n T) (hn : n ≤ 31) :
    Calls Try.prog 18 #[.slice A n c, .int .i64 k0, .int .i64 num, .int .i64 slack] w fun e w' => e = .returned (fairV (fst? T n (cl k0 1 8).toNat (cl num 0 1000) (cl slack 0 1048576))) ∧ w = w' := by
  have hk := cl_in k0 1 8 (by omega)
  obtain ⟨hm0, hm1⟩ := cl_in num 0 1000 (by omega)
  obtain ⟨hs0, hs1⟩ := cl_in slack 0 1048576 (by omega)
  obtain ⟨k, hkk⟩ : ∃ k : Nat, cl k0 1 8 = k := ⟨(cl k0 1 8).toNat, by omega⟩
  have HM := Lib.hid (fun w => many_any k0 w)
  rw [hkk] at HM ⊢
  have hk8 : k ≤ 8 := by omega
  rw [Int.toNat_natCast]
  clear hk hkk
  have HN := Lib.hid (fun w => clamp_any num 1000 (by omega) w)
  have HL := Lib.hid (fun w => clamp_any slack 1048576 (by omega) w)
  generalize cl num 0 1000 = N at *
  generalize cl slack 0 1048576 = S at *
  have HO := Lib.hid (fun a b (hab : a ≤ b) (hb : b < n) => outrun_any A n c T a b k N S w h hab hb hn hk8 hm0 hm1 hs0 hs1)
  clear h
  go_enter Try.func18, Try.ntmps18
  go_wp2_with (first
    | (go_at_call 23; (with_reducible refine (HM.out _).mono ?_); rintro e w' ⟨rfl, rfl⟩)
    | (go_at_call 30; (with_reducible refine (HN.out _).mono ?_); rintro e w' ⟨rfl, rfl⟩)
    | (go_at_call 30; (with_reducible refine (HL.out _).mono ?_); rintro e w' ⟨rfl, rfl⟩))
  go_loop [11] (fun v => ∃ t : Nat, t ≤ n ∧ v = .int .i64 t ∧ ∀ p ∈ wins t, ¬ Unf T k N S p.1 p.2) (fun v => n - (intOf v).toNat)
  case atStart => exact ⟨0, Nat.zero_le _, rfl, fun p hp => by simp [wins] at hp⟩
  case round =>
    obtain ⟨t, ht, rfl, hp⟩ := hrel
    have HP := Lib.hid hp
    clear hp
    by_cases htn : t < n
    · have htI : (t : Int) < (n : Int) := by omega
      go_wp2
      go_loop [12] (fun v => ∃ d : Nat, d ≤ t + 1 ∧ v = .int .i64 d ∧ ∀ p ∈ upto t d, ¬ Unf T k N S p.1 p.2) (fun v => t + 1 - (intOf v).toNat)
      case atStart => exact ⟨0, Nat.zero_le _, rfl, by rw [upto_zero]; exact HP.out⟩
      case round =>
        obtain ⟨d, hd, rfl, hq⟩ := hrel
        have HQ := Lib.hid hq
        clear hq
        by_cases hdt : d ≤ t
        · have hdI : (d : Int) ≤ (t : Int) := by omega
          have HC := HO.out (t - d) t (by omega) htn
          have e : ((t - d : Nat) : Int) = (t : Int) - (d : Int) := by omega
          by_cases hu : Unf T k N S (t - d) t
          · have HF := Lib.hid (fst_some (m := n) (pre := upto t d) (x := (t - d, t)) (by rw [← upto_succ hdt]; exact upto_pre htn) HQ.out hu)
            rw [unf_iff.2 hu, e] at HC
            have HE := Lib.hid e
            clear e hu
            go_wp2_with (go_at_call 31; (with_reducible refine HC.mono ?_); rintro e w' ⟨rfl, rfl⟩)
            go_returns
            exact ⟨by rw [HF.out]; simp only [fairV]; rw [HE.out]; rfl, rfl⟩
          · have HU := Lib.hid hu
            rw [unf_no hu, e] at HC
            clear e hu
            go_wp2_with (go_at_call 31; (with_reducible refine HC.mono ?_); rintro e w' ⟨rfl, rfl⟩)
            go_round
            case rel =>
              refine ⟨d + 1, by omega, by go_num, fun p hp => ?_⟩
              rw [upto_succ hdt, List.mem_append] at hp
              rcases hp with hp | hp
              · exact HQ.out p hp
              · simp at hp; subst hp; exact HU.out
            case measure => simp [intOf]; omega
        · have hdI : ¬ ((d : Int) ≤ (t : Int)) := by omega
          obtain rfl : d = t + 1 := by omega
          go_wp2
          go_round
          case rel => exact ⟨t + 1, by omega, by go_num, by rw [← upto_all]; exact HQ.out⟩
          case measure => simp [intOf]; omega
    · have htI : ¬ ((t : Int) < (n : Int)) := by omega
      obtain rfl : t = n := by omega
      have HF := Lib.hid (fst_none HP.out)
      go_wp2
      go_returns
      exact ⟨by rw [HF.out]; rfl, rfl⟩
end Go.Proofs.Ytdkkoeiceaolnaa
