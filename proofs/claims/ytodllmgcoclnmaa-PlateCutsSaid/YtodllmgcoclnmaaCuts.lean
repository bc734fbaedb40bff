/-
  PlateCuts, walked.
-/
import Derived.Test.YtodllmgcoclnmaaBoth
namespace Go.Proofs.Ytodllmgcoclnmaa
open Go.RowKit

/-- Where j calls were made of which the K-th was to be the last one. -/
structure Cs (K j : Nat) (s : St) : Prop where
  good : Good s
  len : s.is.length = 4
  wt : s.wait.length ≤ j
  yes : 0 < K → K ≤ j → s.gone = true ∧ s.n = K
  no : ¬ (0 < K ∧ K ≤ j) → s.gone = false ∧ s.n = j ∧ s.left = if K = 0 then 0 else K - j
theorem crash_len (s : St) (keep : Nat) : (crash s keep).is.length = s.is.length := by
  unfold crash; split
  · rfl
  · exact done_length _ _ _ _
theorem count_len (s : St) : (count s).is.length = s.is.length := by
  unfold count; split
  · rfl
  · split
    · exact crash_len _ _
    · rfl
theorem count_gone {s : St} (h : s.gone = false) : (count s).gone = lastC s := by
  unfold count lastC
  by_cases h0 : s.left = 0
  · rw [if_pos h0, h0]; exact h
  · rw [if_neg h0]
    by_cases h1 : s.left = 1
    · rw [if_pos h1, h1]; unfold crash; rw [if_neg (by simp [h])]; rfl
    · rw [if_neg h1]; simp [h1, h]
theorem count_left {s : St} (h : lastC s = false) : (count s).left = s.left - 1 := by
  have h1 : ¬ s.left = 1 := by unfold lastC at h; simpa using h
  unfold count
  by_cases h0 : s.left = 0
  · rw [if_pos h0, h0]
  · rw [if_neg h0, if_neg h1]
theorem Cs.lst {K j : Nat} {s : St} (h : Cs K j s) (hn : ¬ (0 < K ∧ K ≤ j)) : lastC s = decide (0 < K ∧ K ≤ j + 1) := by
  obtain ⟨-, -, hl⟩ := h.no hn
  unfold lastC
  rw [hl]
  by_cases h0 : K = 0
  · subst h0; rfl
  · rw [if_neg h0]
    by_cases h1 : K ≤ j + 1
    · rw [show K - j = 1 by omega, decide_eq_true (by omega)]; rfl
    · rw [decide_eq_false (by omega), beq_eq_false_iff_ne]; omega
theorem Cs.count {K j : Nat} {s s1 : St} (h : Cs K j s) (hn : ¬ (0 < K ∧ K ≤ j)) (h1 : Good s1) (hlen : s1.is.length = 4) (hw : s1.wait.length ≤ j + 1) (hg : s1.gone = s.gone) (hl : s1.left = s.left) (hc : s1.n = s.n) : Cs K (j + 1) (count s1) := by
  obtain ⟨g0, n0, l0⟩ := h.no hn
  have hlast : lastC s1 = decide (0 < K ∧ K ≤ j + 1) := by rw [← h.lst hn]; unfold lastC; rw [hl]
  refine ⟨h1.count, by rw [count_len]; exact hlen, Nat.le_trans (count_wait _) hw, fun a b => ⟨?_, ?_⟩, fun hn' => ⟨?_, ?_, ?_⟩⟩
  · rw [count_gone (hg.trans g0), hlast]; simp [a, b]
  · rw [count_n, hc, n0]; omega
  · rw [count_gone (hg.trans g0), hlast]; simpa using hn'
  · rw [count_n, hc, n0]
  · rw [count_left (by rw [hlast]; simpa using hn'), hl, l0]
    by_cases h0 : K = 0
    · rw [if_pos h0, if_pos h0]
    · rw [if_neg h0, if_neg h0]; omega
theorem Cs.start (K keep : Nat) (hK : K < 20) (hk : keep < 18446744073709551616) : Cs K 0 (cut (fresh 4) (K : Int) keep) :=
  ⟨(Good.fresh 4).cut (by omega) hk, by show (List.replicate (size0 4) (zeros 32)).length = 4; rw [List.length_replicate]; rfl, Nat.le_refl _, fun a b => by omega, fun _ => ⟨rfl, rfl, by
    show (K : Int).toNat = _
    rw [Int.toNat_natCast]; split <;> omega⟩⟩
/-- The answer of the next call. -/
def ansE (K j : Nat) : Int := if 0 < K ∧ K ≤ j then 70 else 0
theorem Cs.write {K j : Nat} {s : St} (h : Cs K j s) (i : Int) (h0 : 0 ≤ i) (h4 : i < 4) (t : ByteArray) (ht : t.size ≤ 32) : writeE s i t = ansE K (j + 1) ∧ Cs K (j + 1) (writeS s i t) := by
  by_cases hg : 0 < K ∧ K ≤ j
  · obtain ⟨g, n⟩ := h.yes hg.1 hg.2
    have hw : wrong s i = 70 := by unfold wrong; rw [if_pos g]
    refine ⟨?_, ?_⟩
    · unfold writeE ansE; rw [hw, if_pos (by omega), if_pos (by omega)]
    · unfold writeS; rw [hw, if_pos (by omega)]
      exact ⟨h.good, h.len, by have := h.wt; omega, fun _ _ => ⟨g, n⟩, fun hn => absurd ⟨hg.1, by omega⟩ hn⟩
  · obtain ⟨g, n, l⟩ := h.no hg
    have hw : wrong s i = 0 := by unfold wrong; rw [if_neg (by simp [g]), if_neg (by rw [h.len]; omega)]
    refine ⟨?_, ?_⟩
    · unfold writeE countE ansE
      rw [hw, if_neg (by omega), if_neg (by omega), l]
      by_cases h0 : K = 0
      · rw [if_pos h0, if_neg (by omega), if_neg (by omega)]
      · rw [if_neg h0]
        by_cases h1 : K ≤ j + 1
        · rw [if_pos (by omega), if_pos (by omega)]
        · rw [if_neg (by omega), if_neg (by omega)]
    · unfold writeS; rw [hw, if_neg (by omega)]
      exact h.count hg (h.good.add hw ht) h.len (by have := h.wt; simp [add]; omega) rfl rfl rfl
theorem Cs.sync {K j : Nat} {s : St} (h : Cs K j s) : syncE s = ansE K (j + 1) ∧ Cs K (j + 1) (syncS s) := by
  by_cases hg : 0 < K ∧ K ≤ j
  · obtain ⟨g, n⟩ := h.yes hg.1 hg.2
    refine ⟨?_, ?_⟩
    · unfold syncE ansE; rw [if_pos (.inl g), if_pos (by omega)]
    · unfold syncS; rw [if_pos g]
      exact ⟨h.good, h.len, by have := h.wt; omega, fun _ _ => ⟨g, n⟩, fun hn => absurd ⟨hg.1, by omega⟩ hn⟩
  · obtain ⟨g, n, l⟩ := h.no hg
    have hc := h.count hg h.good h.len (by have := h.wt; omega) rfl rfl rfl
    refine ⟨?_, ?_⟩
    · unfold syncE ansE
      rw [l]
      by_cases h0 : K = 0
      · rw [if_pos h0, if_neg (by simp [g]), if_neg (by omega)]
      · rw [if_neg h0]
        by_cases h1 : K ≤ j + 1
        · rw [if_pos (.inr (by omega)), if_pos (by omega)]
        · rw [if_neg (by simp [g]; omega), if_neg (by omega)]
    · unfold syncS
      rw [if_neg (by simp [g])]
      split
      · exact hc
      · refine ⟨hc.good.whole, ?_, Nat.zero_le _, hc.yes, hc.no⟩
        show (done _ _ _ _).length = 4
        rw [done_length]; exact hc.len

set_option maxRecDepth 100000 in
set_option maxHeartbeats 8000000 in
theorem cuts_any (n m : Nat) (keep : Nat) (w : World) (hn : n < 256) (hm : m < 256) (hkp : keep < 18446744073709551616) :
    Calls Try.prog 6 #[.int .u8 (n : Int), .int .u8 (m : Int), .int .u64 (keep : Int)] w fun e w' => e = .returned (.bool true) ∧ Below w.heap.size w w' := by
  have HNW := Lib.hid (fun w => new_any 4 w)
  go_enter Try.func6, Try.ntmps6
  go_wp2_with fail
  go_at_call 9
  refine (HNW.out _).mono ?_
  rintro e w1 ⟨rfl, k1⟩
  have P1 := Lib.hid (PIn.start (Below.refl _ w) k1)
  clear k1
  obtain ⟨K, hK⟩ : ∃ K : Nat, (n : Int) % 20 = (K : Int) := ⟨n % 20, by omega⟩
  obtain ⟨M, hM⟩ : ∃ M : Nat, (m : Int) % 30 = (M : Int) := ⟨m % 30, by omega⟩
  have hK20 : K < 20 := by omega
  have hM30 : M < 30 := by omega
  have HCT := Lib.hid (pin_cut P1.out (K : Int) keep (by omega) hkp)
  generalize w.heap.size = z at *
  go_wp2_with (go_at_call 16; refine HCT.out.mono ?_; rintro e w2 ⟨rfl, k1⟩; have P2 := Lib.hid k1; clear k1)
  go_loopw [9] (fun iv wr => ∃ (j : Nat) (s : St), j ≤ M ∧ iv = .int .i64 ((j : Int) + 1) ∧ PIn w wr z s ∧ Cs K j s) (fun iv _ => M + 1 - (intOf iv).toNat)
  case atStart => exact ⟨0, _, Nat.zero_le _, rfl, P2.out, Cs.start K keep hK20 hkp⟩
  case round =>
    obtain ⟨j, s, hj, rfl, hP, hC⟩ := hrel
    have P3 := Lib.hid hP
    have C3 := Lib.hid hC
    have hsn : s.n ≤ 1000 := by
      by_cases hg : 0 < K ∧ K ≤ j
      · have := (hC.yes hg.1 hg.2).2; omega
      · have := (hC.no hg).2.1; omega
    have hwt := hC.wt
    clear hP hC P1 P2 HCT
    by_cases hlt : j < M
    · have hlI : (j : Int) + 1 ≤ (M : Int) := by omega
      have hj0 : (0 : Int) ≤ (j : Int) := by omega
      have hj30 : (j : Int) < 30 := by omega
      rcases (show K = 0 ∨ (0 < K ∧ K ≤ j + 1) ∨ (0 < K ∧ j + 1 < K) by omega) with hk | ⟨hk, hk2⟩ | ⟨hk, hk2⟩
      · have hkI : ¬ ((0 : Int) < (K : Int)) := by omega
        have hk0 : ¬ 0 < K := by omega
        clear hk
        by_cases h3 : (j + 1) % 3 = 0
        · have ht : (((j : Int) + 1) % 3 == 0) = true := by simp; omega
          have hE := C3.out.sync.1
          have hC2 := Lib.hid C3.out.sync.2
          have HC1 := pin_sync P3.out C3.out.good (by omega) (by omega)
          rw [hE, show ansE K (j + 1) = 0 from if_neg (by omega)] at HC1
          have HC := Lib.hid HC1
          have hg := (hC2.out.no (by omega)).1
          have hnn := (hC2.out.no (by omega)).2.1
          have hcast : (((syncS s).n : Nat) : Int) = (j : Int) + 1 := by rw [hnn]; push_cast; rfl
          clear hE HC1 hnn
          generalize syncS s = s2 at HC hC2 hg hcast
          have HG := Lib.hid hg
          have HCC := Lib.hid hcast
          clear hg hcast
          go_wp2_with (first
            | (go_at_call 14; refine HC.out.mono ?_; rintro e w3 ⟨rfl, k1⟩; have P4 := Lib.hid k1; clear k1)
            | (go_at_call 24; refine (pin_dead P4.out).mono ?_; rw [HG.out]; rintro e w4 ⟨rfl, rfl⟩)
            | (go_at_call 25; refine (pin_calls P4.out).mono ?_; rw [HCC.out]; rintro e w4 ⟨rfl, rfl⟩)
            | fail)
          go_roundw
          case rel => exact ⟨j + 1, s2, by omega, by congr 1, P4.out, hC2.out⟩
          case measure => simp [intOf]; omega
        · have ht : (((j : Int) + 1) % 3 == 0) = false := by simp; omega
          have hE := (C3.out.write (((j : Int) + 1) % 4) (by omega) (by omega) ⟨#[120]⟩ (by decide)).1
          have hC2 := Lib.hid (C3.out.write (((j : Int) + 1) % 4) (by omega) (by omega) ⟨#[120]⟩ (by decide)).2
          have HC1 := pin_write P3.out C3.out.good (by omega) (by omega) (((j : Int) + 1) % 4) ⟨#[120]⟩ (by decide)
          rw [hE, show ansE K (j + 1) = 0 from if_neg (by omega)] at HC1
          have HC := Lib.hid HC1
          have hg := (hC2.out.no (by omega)).1
          have hnn := (hC2.out.no (by omega)).2.1
          have hcast : (((writeS s (((j : Int) + 1) % 4) ⟨#[120]⟩).n : Nat) : Int) = (j : Int) + 1 := by rw [hnn]; push_cast; rfl
          clear hE HC1 hnn
          generalize writeS s (((j : Int) + 1) % 4) ⟨#[120]⟩ = s2 at HC hC2 hg hcast
          have HG := Lib.hid hg
          have HCC := Lib.hid hcast
          clear hg hcast
          go_wp2_with (first
            | (go_at_call 12; refine HC.out.mono ?_; rintro e w3 ⟨rfl, k1⟩; have P4 := Lib.hid k1; clear k1)
            | (go_at_call 24; refine (pin_dead P4.out).mono ?_; rw [HG.out]; rintro e w4 ⟨rfl, rfl⟩)
            | (go_at_call 25; refine (pin_calls P4.out).mono ?_; rw [HCC.out]; rintro e w4 ⟨rfl, rfl⟩)
            | fail)
          go_roundw
          case rel => exact ⟨j + 1, s2, by omega, by congr 1, P4.out, hC2.out⟩
          case measure => simp [intOf]; omega
      · have hkI : (0 : Int) < (K : Int) := by omega
        have hkJ : (K : Int) ≤ (j : Int) + 1 := by omega
        by_cases h3 : (j + 1) % 3 = 0
        · have ht : (((j : Int) + 1) % 3 == 0) = true := by simp; omega
          have hE := C3.out.sync.1
          have hC2 := Lib.hid C3.out.sync.2
          have HC1 := pin_sync P3.out C3.out.good (by omega) (by omega)
          rw [hE, show ansE K (j + 1) = 70 from if_pos (by omega)] at HC1
          have HC := Lib.hid HC1
          have hg := (hC2.out.yes (by omega) (by omega)).1
          have hnn := (hC2.out.yes (by omega) (by omega)).2
          have hcast : (((syncS s).n : Nat) : Int) = (K : Int) := by rw [hnn]
          clear hE HC1 hnn
          generalize syncS s = s2 at HC hC2 hg hcast
          have HG := Lib.hid hg
          have HCC := Lib.hid hcast
          clear hg hcast
          go_wp2_with (first
            | (go_at_call 14; refine HC.out.mono ?_; rintro e w3 ⟨rfl, k1⟩; have P4 := Lib.hid k1; clear k1)
            | (go_at_call 24; refine (pin_dead P4.out).mono ?_; rw [HG.out]; rintro e w4 ⟨rfl, rfl⟩)
            | (go_at_call 25; refine (pin_calls P4.out).mono ?_; rw [HCC.out]; rintro e w4 ⟨rfl, rfl⟩)
            | fail)
          go_roundw
          case rel => exact ⟨j + 1, s2, by omega, by congr 1, P4.out, hC2.out⟩
          case measure => simp [intOf]; omega
        · have ht : (((j : Int) + 1) % 3 == 0) = false := by simp; omega
          have hE := (C3.out.write (((j : Int) + 1) % 4) (by omega) (by omega) ⟨#[120]⟩ (by decide)).1
          have hC2 := Lib.hid (C3.out.write (((j : Int) + 1) % 4) (by omega) (by omega) ⟨#[120]⟩ (by decide)).2
          have HC1 := pin_write P3.out C3.out.good (by omega) (by omega) (((j : Int) + 1) % 4) ⟨#[120]⟩ (by decide)
          rw [hE, show ansE K (j + 1) = 70 from if_pos (by omega)] at HC1
          have HC := Lib.hid HC1
          have hg := (hC2.out.yes (by omega) (by omega)).1
          have hnn := (hC2.out.yes (by omega) (by omega)).2
          have hcast : (((writeS s (((j : Int) + 1) % 4) ⟨#[120]⟩).n : Nat) : Int) = (K : Int) := by rw [hnn]
          clear hE HC1 hnn
          generalize writeS s (((j : Int) + 1) % 4) ⟨#[120]⟩ = s2 at HC hC2 hg hcast
          have HG := Lib.hid hg
          have HCC := Lib.hid hcast
          clear hg hcast
          go_wp2_with (first
            | (go_at_call 12; refine HC.out.mono ?_; rintro e w3 ⟨rfl, k1⟩; have P4 := Lib.hid k1; clear k1)
            | (go_at_call 24; refine (pin_dead P4.out).mono ?_; rw [HG.out]; rintro e w4 ⟨rfl, rfl⟩)
            | (go_at_call 25; refine (pin_calls P4.out).mono ?_; rw [HCC.out]; rintro e w4 ⟨rfl, rfl⟩)
            | fail)
          go_roundw
          case rel => exact ⟨j + 1, s2, by omega, by congr 1, P4.out, hC2.out⟩
          case measure => simp [intOf]; omega
      · have hkI : (0 : Int) < (K : Int) := by omega
        have hkJ : ¬ ((K : Int) ≤ (j : Int) + 1) := by omega
        by_cases h3 : (j + 1) % 3 = 0
        · have ht : (((j : Int) + 1) % 3 == 0) = true := by simp; omega
          have hE := C3.out.sync.1
          have hC2 := Lib.hid C3.out.sync.2
          have HC1 := pin_sync P3.out C3.out.good (by omega) (by omega)
          rw [hE, show ansE K (j + 1) = 0 from if_neg (by omega)] at HC1
          have HC := Lib.hid HC1
          have hg := (hC2.out.no (by omega)).1
          have hnn := (hC2.out.no (by omega)).2.1
          have hcast : (((syncS s).n : Nat) : Int) = (j : Int) + 1 := by rw [hnn]; push_cast; rfl
          clear hE HC1 hnn
          generalize syncS s = s2 at HC hC2 hg hcast
          have HG := Lib.hid hg
          have HCC := Lib.hid hcast
          clear hg hcast
          go_wp2_with (first
            | (go_at_call 14; refine HC.out.mono ?_; rintro e w3 ⟨rfl, k1⟩; have P4 := Lib.hid k1; clear k1)
            | (go_at_call 24; refine (pin_dead P4.out).mono ?_; rw [HG.out]; rintro e w4 ⟨rfl, rfl⟩)
            | (go_at_call 25; refine (pin_calls P4.out).mono ?_; rw [HCC.out]; rintro e w4 ⟨rfl, rfl⟩)
            | fail)
          go_roundw
          case rel => exact ⟨j + 1, s2, by omega, by congr 1, P4.out, hC2.out⟩
          case measure => simp [intOf]; omega
        · have ht : (((j : Int) + 1) % 3 == 0) = false := by simp; omega
          have hE := (C3.out.write (((j : Int) + 1) % 4) (by omega) (by omega) ⟨#[120]⟩ (by decide)).1
          have hC2 := Lib.hid (C3.out.write (((j : Int) + 1) % 4) (by omega) (by omega) ⟨#[120]⟩ (by decide)).2
          have HC1 := pin_write P3.out C3.out.good (by omega) (by omega) (((j : Int) + 1) % 4) ⟨#[120]⟩ (by decide)
          rw [hE, show ansE K (j + 1) = 0 from if_neg (by omega)] at HC1
          have HC := Lib.hid HC1
          have hg := (hC2.out.no (by omega)).1
          have hnn := (hC2.out.no (by omega)).2.1
          have hcast : (((writeS s (((j : Int) + 1) % 4) ⟨#[120]⟩).n : Nat) : Int) = (j : Int) + 1 := by rw [hnn]; push_cast; rfl
          clear hE HC1 hnn
          generalize writeS s (((j : Int) + 1) % 4) ⟨#[120]⟩ = s2 at HC hC2 hg hcast
          have HG := Lib.hid hg
          have HCC := Lib.hid hcast
          clear hg hcast
          go_wp2_with (first
            | (go_at_call 12; refine HC.out.mono ?_; rintro e w3 ⟨rfl, k1⟩; have P4 := Lib.hid k1; clear k1)
            | (go_at_call 24; refine (pin_dead P4.out).mono ?_; rw [HG.out]; rintro e w4 ⟨rfl, rfl⟩)
            | (go_at_call 25; refine (pin_calls P4.out).mono ?_; rw [HCC.out]; rintro e w4 ⟨rfl, rfl⟩)
            | fail)
          go_roundw
          case rel => exact ⟨j + 1, s2, by omega, by congr 1, P4.out, hC2.out⟩
          case measure => simp [intOf]; omega
    · have hlI : ¬ ((j : Int) + 1 ≤ (M : Int)) := by omega
      have HCR := Lib.hid (pin_crash P3.out C3.out.good (by omega) keep hkp)
      have hlen := crash_len s keep
      have HS := Lib.hid (show (crash s keep).gone = true from by unfold crash; split; assumption; rfl)
      have HGD := Lib.hid (C3.out.good.crash keep)
      have HL := Lib.hid (hlen.trans C3.out.len)
      have HN := Lib.hid ((crash_n s keep).symm ▸ hsn)
      have HW := Lib.hid (Nat.le_trans (crash_wait s keep) (by omega : s.wait.length ≤ 30))
      clear hlen hsn hwt
      generalize crash s keep = s4 at HCR HS HGD HL HN HW
      have hwz : ∀ i : Int, wrong (power s4) i = if i < 0 ∨ (4 : Int) ≤ i then 71 else 0 := fun i => by
        unfold wrong
        rw [if_neg (by simp [power])]
        rw [show ((power s4).is.length : Int) = 4 by show (s4.is.length : Int) = 4; rw [HL.out]; rfl]
      have e0 : writeE (power s4) 0 ⟨#[]⟩ = 0 := by
        have hw0 : wrong (power s4) 0 = 0 := by rw [hwz 0, if_neg (by omega)]
        unfold writeE
        rw [hw0, if_neg (by omega), if_neg (by decide)]
        unfold countE
        rw [if_neg (by simp [power])]
      have e4 : ∀ s5 : St, s5 = writeS (power s4) 0 ⟨#[]⟩ → writeE s5 4 ⟨#[]⟩ = 71 := fun s5 h5 => by
        have hw0 : wrong (power s4) 0 = 0 := by rw [hwz 0, if_neg (by omega)]
        have hw : wrong s5 4 = 71 := by
          rw [h5]
          unfold writeS
          rw [hw0, if_neg (by rintro (h | h); exact h rfl; revert h; decide)]
          unfold wrong
          rw [count_gone (by rfl), show lastC (add (power s4) 0 ⟨#[]⟩) = false from rfl, if_neg (by simp), if_pos]
          rw [count_len]
          right
          show (s4.is.length : Int) ≤ 4
          rw [HL.out]; decide
        unfold writeE
        rw [hw, if_pos (by omega)]
      have E0 := Lib.hid e0
      have E4 := Lib.hid (e4 _ rfl)
      have HG5 := Lib.hid (HGD.out.power.write 0 ⟨#[]⟩)
      have HW5 := Lib.hid (Nat.le_trans (write_wait (power s4) 0 ⟨#[]⟩) (by show s4.wait.length + 1 ≤ 900; have := HW.out; omega))
      have HN5 := Lib.hid (Nat.le_trans (write_n (power s4) 0 ⟨#[]⟩) (by show s4.n + 1 ≤ 1000000; have := HN.out; omega))
      clear hwz e0 e4
      go_wp2_with (first
        | (go_at_call 18; refine HCR.out.mono ?_; rintro e w3 ⟨rfl, k1⟩; have P4 := Lib.hid k1; clear k1)
        | (go_at_call 24; refine (pin_dead P4.out).mono ?_; rw [HS.out]; rintro e w4 ⟨rfl, rfl⟩)
        | (go_at_call 20; refine (pin_power P4.out).mono ?_; rintro e w5 ⟨rfl, k1⟩; have P5 := Lib.hid k1; clear k1)
        | (go_at_call 24; refine (pin_dead P5.out).mono ?_; rw [show (power s4).gone = false from rfl]; rintro e w6 ⟨rfl, rfl⟩)
        | (go_at_call 12; refine (pin_write P5.out HGD.out.power (by show s4.wait.length ≤ 900; have := HW.out; omega) (by show s4.n ≤ 1000000; have := HN.out; omega) 0 ⟨#[]⟩ (by decide)).mono ?_; rw [E0.out]; rintro e w7 ⟨rfl, k1⟩; have P6 := Lib.hid k1; clear k1 P5)
        | (go_at_call 12; refine (pin_write P6.out HG5.out HW5.out HN5.out 4 ⟨#[]⟩ (by decide)).mono ?_; rw [E4.out]; rintro e w8 ⟨rfl, k1⟩; have P7 := Lib.hid k1; clear k1)
        | fail)
      go_ret
      exact ⟨rfl, P7.out.bel⟩
end Go.Proofs.Ytodllmgcoclnmaa
