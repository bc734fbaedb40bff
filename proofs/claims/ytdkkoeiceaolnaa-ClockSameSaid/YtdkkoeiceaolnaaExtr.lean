/-
  The greatest and the least of some clocks' ways; whether one of them outruns another one (package clock: apart, outruns; slices.Max, slices.Min at lists of numbers), by contracts.
-/
import Derived.Test.YtdkkoeiceaolnaaRway
import Derived.Deep.OwnRows
import Derived.Deep.RegionHeld3
namespace Go.Proofs.Ytdkkoeiceaolnaa
open Go.RowKit

/-- The greatest, the least of z 0 to z m. -/
def mx (z : Nat → Int) : Nat → Int
  | 0 => z 0
  | m + 1 => max (mx z m) (z (m + 1))
def mn (z : Nat → Int) : Nat → Int
  | 0 => z 0
  | m + 1 => min (mn z m) (z (m + 1))
theorem mx_is (z : Nat → Int) (m : Nat) : (∃ i, i ≤ m ∧ mx z m = z i) ∧ ∀ i, i ≤ m → z i ≤ mx z m := by
  induction m with
  | zero => exact ⟨⟨0, Nat.le_refl _, rfl⟩, fun i hi => by rw [show i = 0 by omega]; exact Int.le_refl _⟩
  | succ m ih =>
    obtain ⟨⟨i, hi, e⟩, h⟩ := ih
    refine ⟨?_, fun j hj => ?_⟩
    · rcases Int.lt_or_le (mx z m) (z (m + 1)) with hl | hl
      · exact ⟨m + 1, Nat.le_refl _, by simp only [mx]; omega⟩
      · exact ⟨i, by omega, by simp only [mx]; omega⟩
    · simp only [mx]
      rcases Nat.lt_or_ge j (m + 1) with hl | hl
      · have := h j (by omega); omega
      · obtain rfl : j = m + 1 := by omega
        omega
theorem mn_is (z : Nat → Int) (m : Nat) : (∃ i, i ≤ m ∧ mn z m = z i) ∧ ∀ i, i ≤ m → mn z m ≤ z i := by
  induction m with
  | zero => exact ⟨⟨0, Nat.le_refl _, rfl⟩, fun i hi => by rw [show i = 0 by omega]; exact Int.le_refl _⟩
  | succ m ih =>
    obtain ⟨⟨i, hi, e⟩, h⟩ := ih
    refine ⟨?_, fun j hj => ?_⟩
    · rcases Int.lt_or_le (z (m + 1)) (mn z m) with hl | hl
      · exact ⟨m + 1, Nat.le_refl _, by simp only [mn]; omega⟩
      · exact ⟨i, by omega, by simp only [mn]; omega⟩
    · simp only [mn]
      rcases Nat.lt_or_ge j (m + 1) with hl | hl
      · have := h j (by omega); omega
      · obtain rfl : j = m + 1 := by omega
        omega
/-- If any clock outruns another one, the fastest outruns the slowest. -/
theorem unf_extr {T : Nat → Nat → Int} {m : Nat} {num slack : Int} {a b : Nat} (h0 : 0 ≤ num) :
    unf T (m + 1) num slack a b = decide ((100 + num) * mn (way T a b) m + 100 * slack < 100 * mx (way T a b) m) := by
  unfold unf
  congr 1
  apply propext
  obtain ⟨⟨i, hi, ei⟩, hx⟩ := mx_is (way T a b) m
  obtain ⟨⟨j, hj, ej⟩, hn⟩ := mn_is (way T a b) m
  constructor
  · rintro ⟨i', hi', j', hj', ho⟩
    unfold outr at ho
    have h1 := hx i' (by omega)
    have h2 : (100 + num) * mn (way T a b) m ≤ (100 + num) * way T a b j' := Int.mul_le_mul_of_nonneg_left (hn j' (by omega)) (by omega)
    omega
  · intro h
    exact ⟨i, by omega, j, by omega, by unfold outr; rw [← ei, ← ej]; exact h⟩

/-- A list of k numbers in block g, from its beginning on. -/
def Nums (w : World) (g k : Nat) (z : Nat → Int) : Prop := ∀ i, i < k → w.cell? ⟨g, i, none⟩ = some (.int .i64 (z i))

theorem max_any (g m c : Nat) (z : Nat → Int) (w : World) (h : Nums w g (m + 1) z) (hm : m < 8) :
    Calls Try.prog 35 #[.slice (some ⟨g, 0, none⟩) (m + 1) c] w fun e w' => e = .returned (.int .i64 (mx z m)) ∧ w = w' := by
  have HN := Lib.hid h
  have h0 := h 0 (by omega)
  have hm1 : (0 : Int) < ((m + 1 : Nat) : Int) := by omega
  have hm2 : ¬ (((m + 1 : Nat) : Int) < 1) := by omega
  clear h
  obtain ⟨k, hk⟩ : ∃ k, m + 1 = k := ⟨_, rfl⟩
  rw [hk] at HN hm1 hm2 ⊢
  have HK := Lib.hid hk
  clear hk
  go_enter Try.func35, Try.ntmps35
  go_wp2
  clear h0
  go_loop [3, 4] (fun s v => ∃ i : Nat, i ≤ m ∧ v = .int .i64 ((i : Int) + 1) ∧ s = .int .i64 (mx z i)) (fun _ v => k - (intOf v).toNat)
  case atStart => exact ⟨0, Nat.zero_le _, rfl, rfl⟩
  case round =>
    obtain ⟨i, hi, rfl, rfl⟩ := hrel
    by_cases hik : i < m
    · have h1 := HN.out (i + 1) (by have := HK.out; omega)
      have h2 : (i : Int) + 1 < (k : Int) := by have := HK.out; omega
      have h3 := Lib.hid (show mx z (i + 1) = max (mx z i) (z (i + 1)) from rfl)
      go_wp2
      all_goals
        go_round
        case rel => exact ⟨i + 1, by omega, by go_num, by rw [h3.out]; congr 1; omega⟩
        case measure => have := HK.out; simp [intOf]; omega
    · have h2 : ¬ ((i : Int) + 1 < (k : Int)) := by have := HK.out; omega
      obtain rfl : i = m := by omega
      go_wp2
      go_ret
      exact ⟨rfl, rfl⟩
theorem min_any (g m c : Nat) (z : Nat → Int) (w : World) (h : Nums w g (m + 1) z) (hm : m < 8) :
    Calls Try.prog 36 #[.slice (some ⟨g, 0, none⟩) (m + 1) c] w fun e w' => e = .returned (.int .i64 (mn z m)) ∧ w = w' := by
  have HN := Lib.hid h
  have h0 := h 0 (by omega)
  have hm1 : (0 : Int) < ((m + 1 : Nat) : Int) := by omega
  have hm2 : ¬ (((m + 1 : Nat) : Int) < 1) := by omega
  clear h
  obtain ⟨k, hk⟩ : ∃ k, m + 1 = k := ⟨_, rfl⟩
  rw [hk] at HN hm1 hm2 ⊢
  have HK := Lib.hid hk
  clear hk
  go_enter Try.func36, Try.ntmps36
  go_wp2
  clear h0
  go_loop [3, 4] (fun s v => ∃ i : Nat, i ≤ m ∧ v = .int .i64 ((i : Int) + 1) ∧ s = .int .i64 (mn z i)) (fun _ v => k - (intOf v).toNat)
  case atStart => exact ⟨0, Nat.zero_le _, rfl, rfl⟩
  case round =>
    obtain ⟨i, hi, rfl, rfl⟩ := hrel
    by_cases hik : i < m
    · have h1 := HN.out (i + 1) (by have := HK.out; omega)
      have h2 : (i : Int) + 1 < (k : Int) := by have := HK.out; omega
      have h3 := Lib.hid (show mn z (i + 1) = min (mn z i) (z (i + 1)) from rfl)
      go_wp2
      all_goals
        go_round
        case rel => exact ⟨i + 1, by omega, by go_num, by rw [h3.out]; congr 1; omega⟩
        case measure => have := HK.out; simp [intOf]; omega
    · have h2 : ¬ ((i : Int) + 1 < (k : Int)) := by have := HK.out; omega
      obtain rfl : i = m := by omega
      go_wp2
      go_ret
      exact ⟨rfl, rfl⟩

theorem outruns_any (num slack x y : Int) (w : World) (hm0 : 0 ≤ num) (hm1 : num ≤ 1000) (hs0 : 0 ≤ slack) (hs1 : slack ≤ 1048576) (x0 : 0 ≤ x) (x1 : x ≤ 33554432) (y0 : 0 ≤ y) (y1 : y ≤ 33554432) :
    Calls Try.prog 34 #[.agg #[.int .i64 num, .int .i64 slack], .int .i64 x, .int .i64 y] w fun e w' => e = .returned (.bool (decide ((100 + num) * y + 100 * slack < 100 * x))) ∧ Below w.heap.size w w' := by
  obtain ⟨p0, p1⟩ := mul_bound hm0 hm1 y0 y1
  go_enter Try.func34, Try.ntmps34
  go_wp2
  go_ret
  exact ⟨rfl, by go_grown⟩

set_option maxHeartbeats 1000000 in
theorem apart_any (num slack : Int) (g m c : Nat) (z : Nat → Int) (w : World) (h : Nums w g (m + 1) z) (hm : m < 8) (hm0 : 0 ≤ num) (hm1 : num ≤ 1000) (hs0 : 0 ≤ slack) (hs1 : slack ≤ 1048576) (hz : ∀ i, i ≤ m → 0 ≤ z i ∧ z i ≤ 33554432) :
    Calls Try.prog 29 #[.agg #[.int .i64 num, .int .i64 slack], .slice (some ⟨g, 0, none⟩) (m + 1) c] w fun e w' => e = .returned (.bool (decide ((100 + num) * mn z m + 100 * slack < 100 * mx z m))) ∧ Below w.heap.size w w' := by
  obtain ⟨x0, x1⟩ : 0 ≤ mx z m ∧ mx z m ≤ 33554432 := by
    obtain ⟨⟨i, hi, e⟩, -⟩ := mx_is z m
    rw [e]; exact hz i hi
  obtain ⟨y0, y1⟩ : 0 ≤ mn z m ∧ mn z m ≤ 33554432 := by
    obtain ⟨⟨i, hi, e⟩, -⟩ := mn_is z m
    rw [e]; exact hz i hi
  have HX := Lib.hid (fun w (h : Nums w g (m + 1) z) => max_any g m c z w h hm)
  have HY := Lib.hid (fun w (h : Nums w g (m + 1) z) => min_any g m c z w h hm)
  have HO := Lib.hid (fun w => outruns_any num slack _ _ w hm0 hm1 hs0 hs1 x0 x1 y0 y1)
  have h' : Nums (w.alloc (.cells #[.int .i64 num, .int .i64 slack] 57)).drew g (m + 1) z := fun i hi => by
    have hx := h i hi
    exact (((Below.refl _ w).alloc (Nat.le_refl _) (.cells #[.int .i64 num, .int .i64 slack] 57)).drew.cell (p := ⟨g, i, none⟩) (cell_lt5 hx)).trans hx
  have HN := Lib.hid h'
  have HB := Lib.hid (((Below.refl _ w).alloc (Nat.le_refl _) (.cells #[.int .i64 num, .int .i64 slack] 57)).drew)
  have d0 : (w.alloc (.cells #[.int .i64 num, .int .i64 slack] 57)).drew.cell? ⟨w.heap.size, 0, none⟩ = some (.int .i64 num) := by simp
  have d1 : (w.alloc (.cells #[.int .i64 num, .int .i64 slack] 57)).drew.cell? ⟨w.heap.size, 1, none⟩ = some (.int .i64 slack) := by simp
  have hlt : w.heap.size < (w.alloc (.cells #[.int .i64 num, .int .i64 slack] 57)).drew.heap.size := by simp [World.drew]
  clear h h' hz
  generalize mx z m = x at *
  generalize mn z m = y at *
  go_enter Try.func29, Try.ntmps29
  go_wp2_with fail
  go_region_held3 (fun w' => w'.cell? ⟨w.heap.size, 0, none⟩ = some (.int .i64 num) ∧ w'.cell? ⟨w.heap.size, 1, none⟩ = some (.int .i64 slack))
    (first | exact ⟨d0, d1⟩ | exact D1.out | fail)
    (first
      | (go_at_call 35; refine (HX.out _ HN.out).mono ?_; rintro e wa ⟨rfl, rfl⟩)
      | (go_at_call 36; refine (HY.out _ HN.out).mono ?_; rintro e wb ⟨rfl, rfl⟩)
      | (go_at_call 34; refine (HO.out _).mono ?_; rintro e wc ⟨rfl, hbc⟩; have D1 := Lib.hid (And.intro ((hbc.cell (p := ⟨w.heap.size, 0, none⟩) hlt).trans d0) ((hbc.cell (p := ⟨w.heap.size, 1, none⟩) hlt).trans d1)); have HBc := Lib.hid (HB.out.trans (hbc.mono HB.out.size)); clear hbc)
      | fail)
  go_wp2
  go_ret
  exact ⟨rfl, HBc.out⟩
end Go.Proofs.Ytdkkoeiceaolnaa
