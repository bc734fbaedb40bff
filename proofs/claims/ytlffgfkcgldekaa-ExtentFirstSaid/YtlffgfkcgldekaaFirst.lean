/-
  ExtentFirst, walked.
-/
import Derived.Test.YtlffgfkcgldekaaStep
namespace Go.Proofs.Ytlffgfkcgldekaa
open Go.RowKit

/-- Looked at up to i: r free places end there, and nowhere are there N of them. -/
structure Run (s : St) (N i r : Int) : Prop where
  lo : 0 ≤ r ∧ r ≤ i ∧ r < N
  all : ∀ j, i - r ≤ j → j < i → s.p j = true
  stop : r = i ∨ s.p (i - r - 1) = false
  no : ∀ g, 0 ≤ g → g + N ≤ i → ¬ All s ⟨g, g + N⟩ true
/-- The lowest N free places begin at B. -/
structure Fnd (s : St) (N B : Int) : Prop where
  lo : 0 ≤ B
  all : All s ⟨B, B + N⟩ true
  no : ∀ g, 0 ≤ g → g < B → ¬ All s ⟨g, g + N⟩ true
section
variable {s : St} {N i r : Int}
theorem Run.start (hN : 1 ≤ N) : Run s N 0 0 := ⟨by omega, fun j h1 h2 => by omega, .inl rfl, fun g h1 h2 => by omega⟩
theorem Run.none (h : Run s N i r) (hp : s.p i = false) (hN : 1 ≤ N) : Run s N (i + 1) 0 := by
  have hl := h.lo
  refine ⟨by omega, fun j h1 h2 => by omega, .inr (by rw [show i + 1 - 0 - 1 = i by omega]; exact hp), fun g h1 h2 ha => ?_⟩
  rcases Int.lt_or_le (g + N) (i + 1) with h3 | h3
  · exact h.no g h1 (by omega) ha
  · have := ha i (by show g ≤ i; omega) (by show i < g + N; omega)
    rw [hp] at this; cases this
theorem Run.more (h : Run s N i r) (hp : s.p i = true) (hr : r + 1 ≠ N) : Run s N (i + 1) (r + 1) := by
  have hl := h.lo
  refine ⟨by omega, fun j h1 h2 => ?_, ?_, fun g h1 h2 ha => ?_⟩
  · by_cases e : j = i
    · subst e; exact hp
    · exact h.all j (by omega) (by omega)
  · rcases h.stop with h1 | h1
    · exact .inl (by omega)
    · exact .inr (by rw [show i + 1 - (r + 1) - 1 = i - r - 1 by omega]; exact h1)
  · rcases Int.lt_or_le (g + N) (i + 1) with h3 | h3
    · exact h.no g h1 (by omega) ha
    · rcases h.stop with h4 | h4
      · omega
      · have := ha (i - r - 1) (by show g ≤ i - r - 1; omega) (by show i - r - 1 < g + N; omega)
        rw [h4] at this; cases this
theorem Run.found (h : Run s N i r) (hp : s.p i = true) (hr : r + 1 = N) : Fnd s N (i - N + 1) := by
  have hl := h.lo
  refine ⟨by omega, fun j h1 h2 => ?_, fun g h1 h2 => h.no g h1 (by omega)⟩
  have h1' : i - N + 1 ≤ j := h1
  have h2' : j < i - N + 1 + N := h2
  by_cases e : j = i
  · subst e; exact hp
  · exact h.all j (by omega) (by omega)
theorem Fnd.alloc {B : Int} (h : Fnd s N B) (hG : Good s) (hN : 1 ≤ N) : allocE s N = 0 ∧ allocR s N = ⟨B, B + N⟩ := by
  obtain ⟨h1, h2⟩ := alloc_lowest hG hN h.all
  rcases alloc_cases s hG N with ⟨h0, -⟩ | ⟨-, -, f, hR, hm, ha, -⟩
  · exact absurd h1 h0
  · refine ⟨h1, ?_⟩
    rw [hR] at h2 ⊢
    have h3 := (mayE_zero hm).2.1
    have h2' : f ≤ B := h2
    have h3' : 0 ≤ f := h3
    have e : f = B := by
      rcases Int.lt_or_le f B with h4 | h4
      · exact absurd ha (h.no f h3' h4)
      · omega
    rw [e]
theorem Run.alloc (h : Run s N 50 r) (hG : Good s) (hn : s.n = 50) (hN : 1 ≤ N) : allocE s N = 2 ∧ allocR s N = ⟨0, 0⟩ := by
  rcases alloc_cases s hG N with ⟨h0, h1, h2, -⟩ | ⟨-, -, f, -, hm, ha, -⟩
  · refine ⟨?_, h2⟩
    rcases h1 with h1 | h1
    · exfalso; unfold allocE at h1; rw [if_neg (by omega)] at h1; split at h1 <;> omega
    · exact h1
  · obtain ⟨-, h2, h3⟩ := mayE_zero hm
    rw [hn] at h3
    exact absurd ha (h.no f h2 h3)
end

set_option maxRecDepth 100000 in
set_option maxHeartbeats 8000000 in
theorem first_any (A : Option Addr) (n c : Nat) (st : Nat → Stp) (m0 : Nat) (w : World) (hS : Steps w A n st) (hn : n ≤ 9223372036854775807) (hm0 : m0 < 256) :
    Calls Try.prog 7 #[.slice A n c, .int .u8 (m0 : Int)] w fun e w' => e = .returned (.bool true) ∧ Below w.heap.size w w' := by
  have hr1 : (m0 : Int).tmod 12 = ((m0 % 12 : Nat) : Int) := by rw [show (12 : Int) = ((12 : Nat) : Int) from rfl, Int.ofNat_tmod]
  have hq1 : m0 % 12 < 12 := Nat.mod_lt _ (by omega)
  generalize m0 % 12 = m1 at hr1 hq1
  obtain ⟨M, hM⟩ : ∃ M : Nat, 1 + (m1 : Int) = (M : Int) := ⟨1 + m1, by omega⟩
  have hM1 : 1 ≤ M ∧ M ≤ 12 := by omega
  have HS := Lib.hid hS
  have HN := Lib.hid (fun w => new_any 50 w)
  have HSH := Lib.hid (fun W (hW : Below w.heap.size w W) => (shown_any W).mono fun _ _ ⟨he, hb⟩ => And.intro he (hW.trans (hb.mono hW.size)))
  clear hS
  by_cases hbig : 60 < n
  · have hbI : (60 : Int) < (n : Int) := by omega
    go_enter Try.func7, Try.ntmps7
    go_wp2
    go_ret
    exact ⟨rfl, Below.refl _ _⟩
  have hbI : ¬ (60 < (n : Int)) := by omega
  have HM := Lib.hid hM
  have HR1 := Lib.hid hr1
  clear hM hr1
  go_enter Try.func7, Try.ntmps7
  go_wp2_with fail
  go_at_call 9
  refine (HN.out _).mono ?_
  rintro e w1 ⟨rfl, k1⟩
  have P1 := Lib.hid (PIO.start (Below.refl _ w) k1)
  clear k1 HN
  generalize w.heap.size + 1 = b at P1
  go_wp2_with fail
  go_loopw [6] (fun iv wr => ∃ (k : Nat) (s : St), k ≤ n ∧ iv = .int .i64 k ∧ PIO w wr b s (fun _ => False) ∧ Good s ∧ s.n = 50) (fun iv _ => n - (intOf iv).toNat)
  case atStart => exact ⟨0, fresh 50, Nat.zero_le _, rfl, P1.out, Good.fresh _, rfl⟩
  case round =>
    obtain ⟨k, s, hk, rfl, hP, hG, hsn⟩ := hrel
    have P3 := Lib.hid hP
    have G3 := Lib.hid hG
    have N3 := Lib.hid hsn
    clear hP hG hsn
    by_cases hlt : k < n
    · have hlI : (k : Int) < (n : Int) := by omega
      have hk0 : (0 : Int) ≤ (k : Int) := by omega
      obtain ⟨ab, off, rfl, hat0⟩ := HS.out k hlt
      obtain ⟨c0, c1, c2, c3⟩ := hat0.below P3.out.bel hat0.lt
      clear hat0
      generalize st k = o at c0 c1 c2 c3
      obtain ⟨ok, on, ⟨of, ot⟩⟩ := o
      replace c0 : wr.cell? ⟨ab, off + k * 4, none⟩ = some (.int .i64 ok) := c0
      replace c1 : wr.cell? ⟨ab, off + k * 4 + 1, none⟩ = some (.int .i64 on) := c1
      replace c2 : wr.cell? ⟨ab, off + k * 4 + 2, none⟩ = some (.int .i64 of) := c2
      replace c3 : wr.cell? ⟨ab, off + k * 4 + 3, none⟩ = some (.int .i64 ot) := c3
      by_cases x0 : ok = 0
      · subst x0
        have HC := Lib.hid (io_alloc P3.out G3.out on)
        have G4 := Lib.hid (G3.out.alloc on)
        have N4 := Lib.hid ((allocS_n s on).trans N3.out)
        generalize allocS s on = s4 at HC G4 N4
        generalize allocR s on = ra at HC
        generalize allocE s on = ea at HC
        go_wp2_with (go_at_call 13; (with_reducible refine HC.out.mono ?_); rintro e w4 ⟨rfl, hP, hkp⟩; have P4 := Lib.hid hP; have K4 := Lib.hid hkp; clear hP hkp)
        go_roundw
        case rel => exact ⟨k + 1, s4, by omega, by go_num, P4.out, G4.out, N4.out⟩
        case measure => simp [intOf]; omega
      by_cases x1 : ok = 1
      · subst x1
        have HC := Lib.hid (io_take P3.out G3.out ⟨of, ot⟩)
        have G4 := Lib.hid (G3.out.take ⟨of, ot⟩)
        have N4 := Lib.hid ((takeS_n s ⟨of, ot⟩).trans N3.out)
        generalize takeS s ⟨of, ot⟩ = s4 at HC G4 N4
        generalize takeE s ⟨of, ot⟩ = ea at HC
        go_wp2_with (go_at_call 15; (with_reducible refine HC.out.mono ?_); rintro e w4 ⟨rfl, hP, hkp⟩; have P4 := Lib.hid hP; have K4 := Lib.hid hkp; clear hP hkp)
        go_roundw
        case rel => exact ⟨k + 1, s4, by omega, by go_num, P4.out, G4.out, N4.out⟩
        case measure => simp [intOf]; omega
      by_cases x2 : ok = 2
      · subst x2
        have HC := Lib.hid (io_give P3.out G3.out ⟨of, ot⟩)
        have G4 := Lib.hid (G3.out.give ⟨of, ot⟩)
        have N4 := Lib.hid ((giveS_n s ⟨of, ot⟩).trans N3.out)
        generalize giveS s ⟨of, ot⟩ = s4 at HC G4 N4
        generalize giveE s ⟨of, ot⟩ = ea at HC
        go_wp2_with (go_at_call 17; (with_reducible refine HC.out.mono ?_); rintro e w4 ⟨rfl, hP, hkp⟩; have P4 := Lib.hid hP; have K4 := Lib.hid hkp; clear hP hkp)
        go_roundw
        case rel => exact ⟨k + 1, s4, by omega, by go_num, P4.out, G4.out, N4.out⟩
        case measure => simp [intOf]; omega
      have d0 : (ok == 0) = false := by simpa using x0
      have d1 : (ok == 1) = false := by simpa using x1
      have d2 : (ok == 2) = false := by simpa using x2
      go_wp2_with fail
      go_roundw
      case rel => exact ⟨k + 1, s, by omega, by go_num, P3.out, G3.out, N3.out⟩
      case measure => simp [intOf]; omega
    · obtain rfl : n = k := by omega
      have hlI : ¬ ((n : Int) < (n : Int)) := by omega
      have hM := HM.out
      have hr1 := HR1.out
      have R0 := Lib.hid (Run.start (s := s) (N := (M : Int)) (by omega))
      go_wp2_with fail
      go_loopw [8, 9, 10] (fun bv rv iv wr => ∃ (i : Nat) (r B : Int), i ≤ 50 ∧ 0 ≤ r ∧ r ≤ 50 ∧ bv = .int .i64 B ∧ rv = .int .i64 r ∧ iv = .int .i64 i ∧ PIO w wr b s (fun _ => False) ∧ Hid ((B = -1 ∧ Run s M i r) ∨ (0 ≤ B ∧ Fnd s M B))) (fun _ _ iv _ => 50 - (intOf iv).toNat)
      case atStart => exact ⟨0, 0, -1, by omega, by omega, by omega, rfl, rfl, rfl, P3.out, .inl ⟨rfl, R0.out⟩⟩
      case round =>
        obtain ⟨i, r, B, hi, hr0, hr50, rfl, rfl, rfl, hP, HB⟩ := hrel
        have P4 := Lib.hid hP
        clear hP
        rcases HB.out with ⟨rfl, hR⟩ | ⟨hB0, hF⟩
        · have R4 := Lib.hid hR
          have hrl := hR.lo
          clear hR HB
          by_cases hi50 : i < 50
          · have hiI : (i : Int) < 50 := by omega
            have hi0 : (0 : Int) ≤ (i : Int) := by omega
            have HI := io_is P4.out G3.out (i : Int)
            cases hp : s.p i with
            | false =>
              rw [hp] at HI
              have HI := Lib.hid HI
              have R5 := Lib.hid (R4.out.none hp (by omega))
              have hne : ¬ ((0 : Int) = (M : Int)) := by omega
              have hnb : ((0 : Int) == (M : Int)) = false := by simpa using hne
              clear hp
              go_wp2_with (go_at_call 22; (with_reducible refine HI.out.mono ?_); rintro e w7 ⟨rfl, hb⟩; have P5 := Lib.hid (P4.out.below hb); clear hb)
              go_roundw
              case rel => exact ⟨i + 1, 0, -1, by omega, by omega, by omega, rfl, rfl, by go_num, P5.out, .inl ⟨rfl, R5.out⟩⟩
              case measure => simp [intOf]; omega
            | true =>
              rw [hp] at HI
              have HI := Lib.hid HI
              by_cases hrM : r + 1 = (M : Int)
              · have R5 := Lib.hid (R4.out.found hp hrM)
                have hBp : 0 ≤ (i : Int) - (M : Int) + 1 := R5.out.lo
                clear hp
                go_wp2_with (go_at_call 22; (with_reducible refine HI.out.mono ?_); rintro e w7 ⟨rfl, hb⟩; have P5 := Lib.hid (P4.out.below hb); clear hb)
                go_roundw
                case rel => exact ⟨i + 1, r + 1, _, by omega, by omega, by omega, rfl, (by first | rfl | exact congrArg (Value.int .i64) hrM.symm), by go_num, P5.out, .inr ⟨hBp, R5.out⟩⟩
                case measure => simp [intOf]; omega
              · have R5 := Lib.hid (R4.out.more hp hrM)
                have hnb : (r + 1 == (M : Int)) = false := by simpa using hrM
                clear hp
                go_wp2_with (go_at_call 22; (with_reducible refine HI.out.mono ?_); rintro e w7 ⟨rfl, hb⟩; have P5 := Lib.hid (P4.out.below hb); clear hb)
                go_roundw
                case rel => exact ⟨i + 1, r + 1, -1, by omega, by omega, by omega, rfl, rfl, by go_num, P5.out, .inl ⟨rfl, R5.out⟩⟩
                case measure => simp [intOf]; omega
          · obtain rfl : i = 50 := by omega
            obtain ⟨e1, e2⟩ := R4.out.alloc G3.out N3.out (by omega)
            have HC := io_alloc P4.out G3.out (M : Int)
            rw [e1, e2] at HC
            have HC := Lib.hid HC
            have hq := fun a b w => range_same a b w
            clear e1 e2
            go_wp2_with (first
              | (go_at_call 13; (with_reducible refine HC.out.mono ?_); rintro e w8 ⟨rfl, hP, -⟩; have PA := Lib.hid (hP.bel.alloc hP.bel.size (.cells #[.int .i64 0, .int .i64 (0)] 30)); clear hP)
              | (go_at_call 24; (with_reducible refine (HSH.out _ PA.out).mono ?_); rintro e w9 ⟨rfl, hP⟩; have PB' := Lib.hid hP; clear hP)
              | fail)
            go_ret
            exact ⟨rfl, PB'.out⟩
        · obtain ⟨e1, e2⟩ := hF.alloc G3.out (by omega)
          have HC := io_alloc P4.out G3.out (M : Int)
          rw [e1, e2] at HC
          have HC := Lib.hid HC
          have hq := fun a b w => range_same a b w
          have hBn : ¬ B < 0 := by omega
          have hBd : decide (B < 0) = false := by simpa using hBn
          have hB50 : B + (M : Int) ≤ 50 := by
            have h1 := hF.all (B + (M : Int) - 1) (by show B ≤ B + (M : Int) - 1; omega) (by show B + (M : Int) - 1 < B + (M : Int); omega)
            have h2 := (G3.out.inn _ h1).2
            rw [N3.out] at h2
            omega
          clear e1 e2 hF HB
          by_cases hi50 : i < 50
          · have hiI : (i : Int) < 50 := by omega
            go_wp2_with (first
              | (go_at_call 13; (with_reducible refine HC.out.mono ?_); rintro e w8 ⟨rfl, hP, -⟩; have PA := Lib.hid (hP.bel.alloc hP.bel.size (.cells #[.int .i64 B, .int .i64 (B + (M : Int))] 30)); clear hP)
              | (go_at_call 24; (with_reducible refine (HSH.out _ PA.out).mono ?_); rintro e w9 ⟨rfl, hP⟩; have PB' := Lib.hid hP; clear hP)
              | fail)
            go_ret
            exact ⟨rfl, PB'.out⟩
          · obtain rfl : i = 50 := by omega
            go_wp2_with (first
              | (go_at_call 13; (with_reducible refine HC.out.mono ?_); rintro e w8 ⟨rfl, hP, -⟩; have PA := Lib.hid (hP.bel.alloc hP.bel.size (.cells #[.int .i64 B, .int .i64 (B + (M : Int))] 30)); clear hP)
              | (go_at_call 24; (with_reducible refine (HSH.out _ PA.out).mono ?_); rintro e w9 ⟨rfl, hP⟩; have PB' := Lib.hid hP; clear hP)
              | fail)
            go_ret
            exact ⟨rfl, PB'.out⟩
end Go.Proofs.Ytlffgfkcgldekaa
