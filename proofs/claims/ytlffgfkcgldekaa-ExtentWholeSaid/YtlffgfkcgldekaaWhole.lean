/-
  ExtentWhole, walked.
-/
import Derived.Test.YtlffgfkcgldekaaStep
namespace Go.Proofs.Ytlffgfkcgldekaa
open Go.RowKit

/-- Which places were dealt with, when round k has come to i: by places of the same rest, one after the other. -/
def dealt (by' k i : Int) (j : Int) : Prop := j % by' < k ∨ (j % by' = k ∧ j < i)
open Classical in
noncomputable def half (n : Nat) (by' k i : Int) (b : Bool) : St := ⟨n, fun j => decide (0 ≤ j ∧ j < (n : Int) ∧ (dealt by' k i j ↔ b = true))⟩
theorem half_p {n : Nat} {by' k i j : Int} {b : Bool} : (half n by' k i b).p j = true ↔ 0 ≤ j ∧ j < (n : Int) ∧ (dealt by' k i j ↔ b = true) := by simp [half]
theorem half_good {n : Nat} (h1 : 1 ≤ n) (h2 : n ≤ 4096) (by' k i : Int) (b : Bool) : Good (half n by' k i b) :=
  ⟨h1, h2, fun j hj => by have := half_p.1 hj; exact ⟨this.1, this.2.1⟩⟩
theorem bool_ext {a b : Bool} (h : a = true ↔ b = true) : a = b := by cases a <;> cases b <;> simp_all
/-- One more place. -/
theorem half_step {n : Nat} {by' k i : Int} {b : Bool} (hb : 0 < by') (hi : i % by' = k) (h0 : 0 ≤ i) (hn : i < (n : Int)) :
    mayE (half n by' k i b) ⟨i, i + 1⟩ = 0 ∧ All (half n by' k i b) ⟨i, i + 1⟩ (!b) ∧ set (half n by' k i b) ⟨i, i + 1⟩ b = half n by' k (i + by') b := by
  have hnd : ¬ dealt by' k i i := by rintro (h | ⟨-, h⟩) <;> omega
  refine ⟨mayE_of (by show i < i + 1; omega) h0 (by show i + 1 ≤ (n : Int); omega), fun j h1 h2 => ?_, St.ext' rfl fun j => ?_⟩
  · have h1' : i ≤ j := h1
    have h2' : j < i + 1 := h2
    obtain rfl : j = i := by omega
    apply bool_ext
    rw [half_p]
    cases b
    · simp [h0, hn, hnd]
    · simp [h0, hn, hnd]
  · show setP _ i (i + 1) b j = _
    unfold setP
    apply bool_ext
    by_cases e : j = i
    · subst e
      rw [if_pos (by omega), half_p]
      have hd : dealt by' k (j + by') j := .inr ⟨hi, by omega⟩
      simp [h0, hn, hd]
    · rw [if_neg (by omega), half_p, half_p]
      have hd : dealt by' k (i + by') j ↔ dealt by' k i j := by
        unfold dealt
        constructor
        · rintro (h | ⟨h1, h2⟩)
          · exact .inl h
          · refine .inr ⟨h1, ?_⟩
            rcases Int.lt_or_le j i with h3 | h3
            · exact h3
            · exfalso
              have h4 : (j - i) % by' = 0 := by
                rw [Int.sub_emod, h1, hi, Int.sub_self, Int.zero_emod]
              have h5 := Int.emod_eq_of_lt (a := j - i) (b := by') (by omega) (by omega)
              omega
        · rintro (h | ⟨h1, h2⟩)
          · exact .inl h
          · exact .inr ⟨h1, by omega⟩
      rw [hd]
/-- The round is over. -/
theorem half_next {n : Nat} {by' k i : Int} {b : Bool} (hb : 0 < by') (hn : (n : Int) ≤ i) : half n by' k i b = half n by' (k + 1) (k + 1) b := by
  refine St.ext' rfl fun j => bool_ext ?_
  rw [half_p, half_p]
  by_cases hj : 0 ≤ j ∧ j < (n : Int)
  · have hd : dealt by' k i j ↔ dealt by' (k + 1) (k + 1) j := by
      unfold dealt
      constructor
      · rintro (h | ⟨h1, h2⟩)
        · exact .inl (by omega)
        · exact .inl (by omega)
      · rintro (h | ⟨h1, h2⟩)
        · by_cases e : j % by' = k
          · exact .inr ⟨e, by omega⟩
          · exact .inl (by omega)
        · have h4 := Int.emod_add_mul_ediv j by'
          have h5 : 0 ≤ by' * (j / by') := Int.mul_nonneg (by omega) (Int.ediv_nonneg hj.1 (by omega))
          omega
    rw [hd]
  · exact ⟨fun h => absurd ⟨h.1, h.2.1⟩ hj, fun h => absurd ⟨h.1, h.2.1⟩ hj⟩
theorem half_start {n : Nat} {by' : Int} (hb : 0 < by') (b : Bool) : half n by' 0 0 b = ⟨n, fun j => decide (0 ≤ j ∧ j < (n : Int) ∧ b = false)⟩ := by
  refine St.ext' rfl fun j => bool_ext ?_
  rw [half_p]
  by_cases hj : 0 ≤ j ∧ j < (n : Int)
  · have hd : ¬ dealt by' 0 0 j := by
      have := Int.emod_nonneg j (show by' ≠ 0 by omega)
      rintro (h | ⟨-, h⟩) <;> omega
    cases b <;> simp [hd]
  · exact ⟨fun h => absurd ⟨h.1, h.2.1⟩ hj, fun h => by have : 0 ≤ j ∧ j < (n : Int) ∧ b = false := by simpa using h
                                                        exact absurd ⟨this.1, this.2.1⟩ hj⟩
theorem half_end {n : Nat} {by' : Int} (hb : 0 < by') (i : Int) (b : Bool) : half n by' by' i b = ⟨n, fun j => decide (0 ≤ j ∧ j < (n : Int) ∧ b = true)⟩ := by
  refine St.ext' rfl fun j => bool_ext ?_
  rw [half_p]
  have hd : dealt by' by' i j := .inl (Int.emod_lt_of_pos j hb)
  by_cases hj : 0 ≤ j ∧ j < (n : Int)
  · cases b <;> simp [hd]
  · cases b <;> simp [hd]
theorem free_all {n : Nat} (h1 : 1 ≤ n) (h2 : n ≤ 4096) : fresh (n : Int) = (⟨n, fun j => decide (0 ≤ j ∧ j < (n : Int) ∧ true = true)⟩ : St) := by
  have e : size0 (n : Int) = n := by unfold size0; rw [if_neg (by omega), if_neg (by omega)]; omega
  refine St.ext' e fun j => ?_
  show decide (0 ≤ j ∧ j < (size0 (n : Int) : Int)) = _
  rw [e]; simp
theorem cnt_no (p : Int → Bool) (hp : ∀ i, p i = false) : ∀ k, cnt p k = 0
  | 0 => rfl
  | k + 1 => by rw [cnt, cnt_no p hp k, hp]; simp
theorem runs_no {n : Nat} {p : Int → Bool} (hp : ∀ i, p i = false) : runs ⟨n, p⟩ = [] := by
  refine (runs_eq (s := ⟨n, p⟩) ⟨Sep.nil, fun x hx => (by cases hx), fun i _ _ => ⟨fun h => ?_, fun h => absurd h mem_nil⟩⟩).symm
  rw [show (⟨n, p⟩ : St).p i = p i from rfl, hp] at h; cases h
theorem none_free {s : St} (hG : Good s) (hp : ∀ i, s.p i = false) : allocE s 1 = 2 ∧ allocR s 1 = ⟨0, 0⟩ ∧ allocS s 1 = s := by
  rcases alloc_cases s hG 1 with ⟨h0, h1, h2, h3⟩ | ⟨-, -, f, -, hm, ha, -⟩
  · rcases h1 with h1 | h1
    · exfalso; unfold allocE at h1; rw [if_neg (by omega)] at h1; split at h1 <;> omega
    · exact ⟨h1, h2, h3⟩
  · exfalso
    have := ha f (by show f ≤ f; omega) (by show f < f + 1; omega)
    rw [hp] at this; cases this

section
variable {w W : World} {b N D : Nat}
theorem whole_take (hN : 1 ≤ N ∧ N ≤ 4096) (hD : 0 < D) {k i : Int} (hi : i % (D : Int) = k) (h0 : 0 ≤ i) (hn : i < (N : Int)) (h : PIO w W b (half N D k i false) (fun _ => False)) :
    Calls Try.prog 15 #[.pointer (some ⟨b, 0, none⟩), .agg #[.int .i64 i, .int .i64 (i + 1)]] W fun e w' => e = .returned (.int .i64 0) ∧ PIO w w' b (half N D k (i + D) false) (fun _ => False) := by
  obtain ⟨h1, h2, h3⟩ := half_step (b := false) (n := N) (by' := (D : Int)) (by omega) hi h0 hn
  have he : takeE (half N D k i false) ⟨i, i + 1⟩ = 0 := takeE_zero.2 ⟨h1, h2⟩
  have hs : takeS (half N D k i false) ⟨i, i + 1⟩ = half N D k (i + D) false := by unfold takeS; rw [if_pos he, h3]
  have := io_take h (half_good hN.1 hN.2 _ _ _ _) ⟨i, i + 1⟩
  rw [he, hs] at this
  exact this.mono fun _ _ ⟨a, b, _⟩ => ⟨a, b⟩
theorem whole_give (hN : 1 ≤ N ∧ N ≤ 4096) (hD : 0 < D) {k i : Int} (hi : i % (D : Int) = k) (h0 : 0 ≤ i) (hn : i < (N : Int)) (h : PIO w W b (half N D k i true) (fun _ => False)) :
    Calls Try.prog 17 #[.pointer (some ⟨b, 0, none⟩), .agg #[.int .i64 i, .int .i64 (i + 1)]] W fun e w' => e = .returned (.int .i64 0) ∧ PIO w w' b (half N D k (i + D) true) (fun _ => False) := by
  obtain ⟨h1, h2, h3⟩ := half_step (b := true) (n := N) (by' := (D : Int)) (by omega) hi h0 hn
  have he : giveE (half N D k i true) ⟨i, i + 1⟩ = 0 := giveE_zero.2 ⟨h1, h2⟩
  have hs : giveS (half N D k i true) ⟨i, i + 1⟩ = half N D k (i + D) true := by unfold giveS; rw [if_pos he, h3]
  have := io_give h (half_good hN.1 hN.2 _ _ _ _) ⟨i, i + 1⟩
  rw [he, hs] at this
  exact this.mono fun _ _ ⟨a, b, _⟩ => ⟨a, b⟩
end
section
variable {w W : World} {b : Nat} {s : St}
/-- Nothing is free. -/
theorem no_alloc (hG : Good s) (hp : ∀ i, s.p i = false) (h : PIO w W b s (fun _ => False)) :
    Calls Try.prog 13 #[.pointer (some ⟨b, 0, none⟩), .int .i64 1] W fun e w' => e = .returned (.tuple #[.agg #[.int .i64 0, .int .i64 0], .int .i64 2]) ∧ PIO w w' b s (fun _ => False) := by
  obtain ⟨h1, h2, h3⟩ := none_free hG hp
  have := io_alloc h hG 1
  rw [h1, h2, h3] at this
  exact this.mono fun _ _ ⟨a, b, _⟩ => ⟨a, b⟩
theorem no_free (hG : Good s) (hp : ∀ i, s.p i = false) (h : PIO w W b s (fun _ => False)) :
    Calls Try.prog 11 #[.pointer (some ⟨b, 0, none⟩)] W fun e w' => e = .returned (.int .i64 0) ∧ PIO w w' b s (fun _ => False) := by
  have := io_free h hG
  rw [cnt_no _ hp] at this
  exact this.mono fun _ _ ⟨a, b⟩ => ⟨a, h.below b⟩
def Empty (e : Ending) : Prop := ∃ A c, e = .returned (.slice A 0 c)
theorem no_list (hG : Good s) (hp : ∀ i, s.p i = false) (h : PIO w W b s (fun _ => False)) :
    Calls Try.prog 20 #[.pointer (some ⟨b, 0, none⟩)] W fun e w' => Empty e ∧ PIO w w' b s (fun _ => False) := by
  refine (io_list h hG).mono fun e w' ⟨⟨v, he, ho⟩, hb⟩ => ⟨?_, h.below hb⟩
  rw [show runs s = [] from by obtain ⟨n, p⟩ := s; exact runs_no hp] at ho
  obtain ⟨A, c, rfl, -, -⟩ := ho.read
  exact ⟨A, c, he⟩
/-- All is free. -/
def OneR (N : Nat) (e : Ending) (w' : World) : Prop := ∃ g c, e = .returned (.slice (some ⟨g, 0, none⟩) 1 c) ∧ 1 ≤ c ∧ w'.cell? ⟨g, 0, none⟩ = some (.int .i64 0) ∧ w'.cell? ⟨g, 1, none⟩ = some (.int .i64 (N : Int))
theorem one_list {N : Nat} (h1 : 1 ≤ N) (h2 : N ≤ 4096) (h : PIO w W b (fresh (N : Int)) (fun _ => False)) :
    Calls Try.prog 20 #[.pointer (some ⟨b, 0, none⟩)] W fun e w' => OneR N e w' ∧ Below w.heap.size w w' := by
  refine (io_list h (Good.fresh _)).mono fun e w' ⟨⟨v, he, ho⟩, hb⟩ => ⟨?_, h.bel.trans (hb.mono h.bel.size)⟩
  rw [runs_fresh] at ho
  obtain ⟨A, c, rfl, hc, hA⟩ := ho.read
  obtain ⟨g, rfl, a0, a1⟩ := hA 0 _ rfl
  have e : size0 (N : Int) = N := by unfold size0; rw [if_neg (by omega), if_neg (by omega)]; omega
  rw [e] at a1
  exact ⟨g, c, he, hc, a0, a1⟩
end
theorem half_none {n D : Nat} (hD : 0 < D) (i : Int) : half n D D i false = half n D 0 0 true := by
  rw [half_end (by omega), half_start (by omega)]
  refine St.ext' rfl fun j => ?_
  simp
theorem half_full {n D : Nat} (h1 : 1 ≤ n) (h2 : n ≤ 4096) (hD : 0 < D) : fresh (n : Int) = half n D 0 0 false := by
  rw [free_all h1 h2, half_start (by omega)]
  refine St.ext' rfl fun j => ?_
  simp
theorem half_whole {n D : Nat} (h1 : 1 ≤ n) (h2 : n ≤ 4096) (hD : 0 < D) (i : Int) : half n D D i true = fresh (n : Int) := by
  rw [free_all h1 h2, half_end (by omega)]

set_option maxRecDepth 100000 in
set_option maxHeartbeats 8000000 in
theorem whole_any (a c : Nat) (w : World) (ha : a < 256) (hc : c < 256) :
    Calls Try.prog 8 #[.int .u8 (a : Int), .int .u8 (c : Int)] w fun e w' => e = .returned (.bool true) ∧ Below w.heap.size w w' := by
  have hr1 : (a : Int).tmod 60 = ((a % 60 : Nat) : Int) := by rw [show (60 : Int) = ((60 : Nat) : Int) from rfl, Int.ofNat_tmod]
  have hr2 : (c : Int).tmod 7 = ((c % 7 : Nat) : Int) := by rw [show (7 : Int) = ((7 : Nat) : Int) from rfl, Int.ofNat_tmod]
  have hq1 : a % 60 < 60 := Nat.mod_lt _ (by omega)
  have hq2 : c % 7 < 7 := Nat.mod_lt _ (by omega)
  generalize a % 60 = m at hr1 hq1
  generalize c % 7 = d at hr2 hq2
  obtain ⟨N, hN⟩ : ∃ N : Nat, 1 + (m : Int) = (N : Int) := ⟨1 + m, by omega⟩
  obtain ⟨D, hD⟩ : ∃ D : Nat, 1 + (d : Int) = (D : Int) := ⟨1 + d, by omega⟩
  have hN1 : 1 ≤ N ∧ N ≤ 60 := by omega
  have hD1 : 1 ≤ D ∧ D ≤ 7 := by omega
  have HN := Lib.hid (fun w => new_any (N : Int) w)
  have HT := Lib.hid (fun (W : World) b k i h1 h2 h3 h => whole_take (w := w) (W := W) (b := b) (N := N) (D := D) (by omega) (by omega) (k := k) (i := i) h1 h2 h3 h)
  have HGI := Lib.hid (fun (W : World) b k i h1 h2 h3 h => whole_give (w := w) (W := W) (b := b) (N := N) (D := D) (by omega) (by omega) (k := k) (i := i) h1 h2 h3 h)
  have HX := Lib.hid (fun k i b => half_next (n := N) (by' := (D : Int)) (k := k) (i := i) (b := b) (by omega))
  have HST := Lib.hid (half_full (n := N) (D := D) (by omega) (by omega) (by omega))
  have HMI := Lib.hid (fun i => half_none (n := N) (D := D) (by omega) i)
  have HEN := Lib.hid (fun i => half_whole (n := N) (D := D) (by omega) (by omega) (by omega) i)
  have HAL := Lib.hid (fun (W : World) b h => no_alloc (w := w) (W := W) (b := b) (s := half N D 0 0 true) (half_good (by omega) (by omega) _ _ _ _) (fun j => by rw [half_start (by omega)]; simp) h)
  have HFR := Lib.hid (fun (W : World) b h => no_free (w := w) (W := W) (b := b) (s := half N D 0 0 true) (half_good (by omega) (by omega) _ _ _ _) (fun j => by rw [half_start (by omega)]; simp) h)
  have HLI := Lib.hid (fun (W : World) b h => no_list (w := w) (W := W) (b := b) (s := half N D 0 0 true) (half_good (by omega) (by omega) _ _ _ _) (fun j => by rw [half_start (by omega)]; simp) h)
  have HON := Lib.hid (fun (W : World) b h => one_list (w := w) (W := W) (b := b) (N := N) (by omega) (by omega) h)
  have HSH := Lib.hid (fun W (hW : Below w.heap.size w W) => (shown_any W).mono fun _ _ ⟨he, hb⟩ => And.intro he (hW.trans (hb.mono hW.size)))
  go_enter Try.func8, Try.ntmps8
  go_wp2_with fail
  go_at_call 9
  refine (HN.out _).mono ?_
  rintro e w1 ⟨rfl, k1⟩
  have P1 := PIO.start (Below.refl _ w) k1
  rw [HST.out] at P1
  have P1 := Lib.hid P1
  clear k1 HN
  generalize w.heap.size + 1 = b at P1
  go_wp2_with fail
  go_loopw [8] (fun kv wr => ∃ k : Nat, k ≤ D ∧ kv = .int .i64 k ∧ PIO w wr b (half N D k k false) (fun _ => False)) (fun kv _ => D - (intOf kv).toNat)
  case atStart => exact ⟨0, Nat.zero_le _, rfl, P1.out⟩
  case round =>
    obtain ⟨k, hk, rfl, hP⟩ := hrel
    have P2 := Lib.hid hP
    clear hP
    by_cases hlt : k < D
    · have hlI : (k : Int) < (D : Int) := by omega
      have hk0 : (0 : Int) ≤ (k : Int) := by omega
      go_wp2_with fail
      go_loopw [9] (fun iv wr => ∃ i : Int, i % (D : Int) = (k : Int) ∧ 0 ≤ i ∧ i ≤ 200 ∧ iv = .int .i64 i ∧ PIO w wr b (half N D k i false) (fun _ => False)) (fun iv _ => (200 - intOf iv).toNat)
      case atStart => exact ⟨k, Int.emod_eq_of_lt hk0 hlI, hk0, by omega, rfl, P2.out⟩
      case round =>
        obtain ⟨i, hi, hi0, hi2, rfl, hP⟩ := hrel
        have HI := Lib.hid hi
        have P3 := Lib.hid hP
        clear hP hi
        by_cases hin : i < (N : Int)
        · go_wp2_with (go_at_call 15; (with_reducible refine (HT.out _ b k i HI.out hi0 hin P3.out).mono ?_); rintro e w3 ⟨rfl, hP⟩; have P4 := Lib.hid hP; clear hP)
          go_roundw
          case rel => exact ⟨i + D, by rw [Int.add_emod_right]; exact HI.out, by omega, by omega, rfl, P4.out⟩
          case measure => simp [intOf]; omega
        · have hE := HX.out k i false (by omega)
          have hP := P3.out
          rw [hE] at hP
          have P4 := Lib.hid hP
          clear hP hE
          go_wp2_with fail
          go_roundw
          case rel => exact ⟨k + 1, by omega, by go_num, P4.out⟩
          case measure => simp [intOf]; omega
    · obtain rfl : k = D := by omega
      have hlI : ¬ ((k : Int) < (k : Int)) := by omega
      have hP := P2.out
      rw [HMI.out] at hP
      have P3 := Lib.hid hP
      clear hP P2
      go_wp2_with (first
        | (go_at_call 13; (with_reducible refine (HAL.out _ _ P3.out).mono ?_); rintro e w3 ⟨rfl, hP⟩; have P4 := Lib.hid (hP.below ((Below.refl _ _).alloc (Nat.le_refl _) (.cells #[.int .i64 0, .int .i64 0] 30))); clear hP)
        | (go_at_call 11; (with_reducible refine (HFR.out _ _ P4.out).mono ?_); rintro e w4 ⟨rfl, hP⟩; have P5 := Lib.hid hP; clear hP)
        | (go_at_call 20; (with_reducible refine (HLI.out _ _ P5.out).mono ?_); rintro e w5 ⟨⟨A, c', rfl⟩, hP⟩; have P6 := Lib.hid hP; clear hP)
        | fail)
      go_loopw [12] (fun kv wr => ∃ q : Nat, q ≤ k ∧ kv = .int .i64 q ∧ PIO w wr b (half N k q q true) (fun _ => False)) (fun kv _ => k - (intOf kv).toNat)
      case atStart => exact ⟨0, Nat.zero_le _, rfl, P6.out⟩
      case round =>
        obtain ⟨q, hk, rfl, hP⟩ := hrel
        have P7 := Lib.hid hP
        clear hP
        by_cases hlt : q < k
        · have hlI : (q : Int) < (k : Int) := by omega
          have hk0 : (0 : Int) ≤ (q : Int) := by omega
          go_wp2_with fail
          go_loopw [13] (fun iv wr => ∃ i : Int, i % (k : Int) = (q : Int) ∧ 0 ≤ i ∧ i ≤ 200 ∧ iv = .int .i64 i ∧ PIO w wr b (half N k q i true) (fun _ => False)) (fun iv _ => (200 - intOf iv).toNat)
          case atStart => exact ⟨q, Int.emod_eq_of_lt hk0 hlI, hk0, by omega, rfl, P7.out⟩
          case round =>
            obtain ⟨i, hi, hi0, hi2, rfl, hP⟩ := hrel
            have HI := Lib.hid hi
            have P8 := Lib.hid hP
            clear hP hi
            by_cases hin : i < (N : Int)
            · go_wp2_with (go_at_call 17; (with_reducible refine (HGI.out _ b q i HI.out hi0 hin P8.out).mono ?_); rintro e w3 ⟨rfl, hP⟩; have P9 := Lib.hid hP; clear hP)
              go_roundw
              case rel => exact ⟨i + k, by rw [Int.add_emod_right]; exact HI.out, by omega, by omega, rfl, P9.out⟩
              case measure => simp [intOf]; omega
            · have hE := HX.out q i true (by omega)
              have hP := P8.out
              rw [hE] at hP
              have P9 := Lib.hid hP
              clear hP hE
              go_wp2_with fail
              go_roundw
              case rel => exact ⟨q + 1, by omega, by go_num, P9.out⟩
              case measure => simp [intOf]; omega
        · obtain rfl : q = k := by omega
          have hlI : ¬ ((q : Int) < (q : Int)) := by omega
          have hP := P7.out
          rw [HEN.out] at hP
          have P8 := Lib.hid hP
          clear hP P7
          have hq := fun a b w => range_same a b w
          go_wp2_with (first
            | (go_at_call 20; (with_reducible refine (HON.out _ _ P8.out).mono ?_); rintro e w5 ⟨⟨g, c', rfl, hc1, z0, z1⟩, hP⟩; have P9 := Lib.hid hP; clear hP)
            | (go_at_call 24; (with_reducible refine (HSH.out _ P9.out).mono ?_); rintro e w6 ⟨rfl, hP⟩; have PA := Lib.hid hP; clear hP)
            | fail)
          go_ret
          exact ⟨rfl, PA.out⟩
end Go.Proofs.Ytlffgfkcgldekaa
