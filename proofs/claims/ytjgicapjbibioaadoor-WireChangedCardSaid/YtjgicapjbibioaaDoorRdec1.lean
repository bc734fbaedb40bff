/-
  The document's reader at the places of a message (weirkeepref01), by contracts.
-/
import Derived.Test.YtjgicapjbibioaaDoorDec4
import Derived.Test.YtjgicapjbibioaaDoorRrtext
namespace Go.Proofs.YtjgicapjbibioaaDoor
open Go.RowKit Go.Lib Go.PlainAid

theorem bt7_of_lev (s : ByteArray) (a : Nat) (h : a + 8 ≤ s.size) : (lev (s.extract a s.size) 8 ≤ 9223372036854775807 ↔ bt s (a + 7) ≤ 127) := by
  have e := bt_extract s a 7 (by omega)
  generalize s.extract a s.size = T at e ⊢
  have b0 := bt_nonneg T 0; have b1 := bt_nonneg T 1; have b2 := bt_nonneg T 2; have b3 := bt_nonneg T 3; have b4 := bt_nonneg T 4; have b5 := bt_nonneg T 5; have b6 := bt_nonneg T 6; have b7 := bt_nonneg T 7
  have c0 := bt_le T 0; have c1 := bt_le T 1; have c2 := bt_le T 2; have c3 := bt_le T 3; have c4 := bt_le T 4; have c5 := bt_le T 5; have c6 := bt_le T 6; have c7 := bt_le T 7
  rw [← e]
  simp only [lev]
  omega
theorem lev_small (s : ByteArray) (k : Int) (hk : Width k) (h : k ≠ 8) : lev s k.toNat ≤ 9223372036854775807 := by
  have c0 := bt_le s 0; have c1 := bt_le s 1; have c2 := bt_le s 2; have c3 := bt_le s 3
  rcases hk with rfl | rfl | rfl | rfl
  · simp only [Int.reduceToNat, lev]; omega
  · simp only [Int.reduceToNat, lev]; omega
  · simp only [Int.reduceToNat, lev]; omega
  · exact absurd rfl h
theorem rrnum_ok (b a : Nat) (s : ByteArray) (k : Int) (w : World) (hR : Rdr w b s a) (hs : s.size ≤ 1000000000) (hk : Width k) (hl : k ≤ ((s.size - a : Nat) : Int)) (hv : lev (s.extract a s.size) k.toNat ≤ 9223372036854775807) :
    Calls Tryd.prog 34 #[.pointer (some ⟨b, 0, none⟩), .int .i64 k] w fun e w' => e = .returned (.tuple #[.int .i64 (lev (s.extract a s.size) k.toNat), .agg #[.slice none 0 0, .int .i64 0]]) ∧ Rdr w' b s (a + k.toNat) ∧ Fr b none w w' := by
  by_cases h8 : k = 8
  · subst h8
    have hl' : a + 8 ≤ s.size := by omega
    have e := hvf_lev s a 8 hl'
    have hv' : lev (s.extract a s.size) 8 ≤ 9223372036854775807 := hv
    have := rrnum_ok8 b a s w hR hs hl' ((bt7_of_lev s a hl').1 hv') (by rw [e]; exact hv')
    rw [e] at this
    exact this
  · have hw := hk
    unfold Width at hw
    obtain ⟨m, rfl⟩ := Int.eq_ofNat_of_zero_le (show 0 ≤ k by omega)
    have hl' : a + m ≤ s.size := by omega
    have e := hvf_lev s a m hl'
    have := rrnum_okv b a s m w hR hs hl' hk (by omega) (by rw [e]; exact hv)
    rw [e] at this
    exact this
theorem rrnum_long' (b a : Nat) (s : ByteArray) (k : Int) (w : World) (hR : Rdr w b s a) (hs : s.size ≤ 1000000000) (hk : Width k) (hl : k ≤ ((s.size - a : Nat) : Int)) (hv : 9223372036854775807 < lev (s.extract a s.size) k.toNat) :
    Calls Tryd.prog 34 #[.pointer (some ⟨b, 0, none⟩), .int .i64 k] w fun e w' => ∃ A at_, e = .returned (.tuple #[.int .i64 0, .agg #[.slice A 1 1, .int .i64 at_]]) ∧ RF w' A 1 1 [11] ∧ Below w.heap.size w w' := by
  by_cases h8 : k = 8
  · subst h8
    have hl' : a + 8 ≤ s.size := by omega
    refine rrnum_long b a s w hR hs hl' ?_
    have h2 := bt7_of_lev s a hl'
    have hv' : 9223372036854775807 < lev (s.extract a s.size) 8 := hv
    omega
  · have := lev_small (s.extract a s.size) k hk h8; omega


/-- Its Num at place i. -/
theorem rrnum_i (R i : Nat) (t : ByteArray) (w : World) (hi : i < 7) (hR : Rdr w R t (pos i)) (ha : pos i ≤ t.size) (hs : t.size ≤ 1000000000) :
    Calls Tryd.prog 34 #[.pointer (some ⟨R, 0, none⟩), .int .i64 (wid i)] w fun e w' => ∃ n A k c at_, e = .returned (.tuple #[.int .i64 n, .agg #[.slice A k c, .int .i64 at_]]) ∧ RF w' A k c (numE t i) ∧ (numE t i = [] → n = numV t i ∧ Rdr w' R t (pos (i + 1))) ∧ Fr R none w w' := by
  have hp := pos_succ i hi
  have hw0 := wid_pos i
  unfold numE
  by_cases h1 : t.size < pos (i + 1)
  · rw [if_pos h1]
    refine (rrnum_short R (pos i) t (wid i) w hR ha hs (wid_width i) (by omega)).mono ?_
    rintro e w' ⟨A, at_, rfl, hc, hb⟩
    exact ⟨0, A, _, _, at_, rfl, hc, fun h => (by cases h), Fr.ofBelow hb⟩
  · rw [if_neg h1]
    by_cases h2 : 9223372036854775807 < numV t i
    · rw [if_pos h2]
      refine (rrnum_long' R (pos i) t (wid i) w hR hs (wid_width i) (by omega) h2).mono ?_
      rintro e w' ⟨A, at_, rfl, hc, hb⟩
      exact ⟨0, A, _, _, at_, rfl, hc, fun h => (by cases h), Fr.ofBelow hb⟩
    · rw [if_neg h2]
      refine (rrnum_ok R (pos i) t (wid i) w hR hs (wid_width i) (by omega) (by show numV t i ≤ _; omega)).mono ?_
      rintro e w' ⟨rfl, hr, hf⟩
      exact ⟨_, none, 0, 0, 0, rfl, RF.none_, fun _ => ⟨rfl, by rw [hp]; exact hr⟩, hf⟩
theorem numE_form (t : ByteArray) (i : Nat) : numE t i = [] ∨ ∃ x, numE t i = [x] ∧ x ≠ 0 := by
  unfold numE
  split
  · exact .inr ⟨10, rfl, by decide⟩
  · split
    · exact .inr ⟨11, rfl, by decide⟩
    · exact .inl rfl
theorem textE_form (t : ByteArray) : textE t = [] ∨ ∃ x xs, textE t = x :: xs ∧ x ≠ 0 ∧ xs.length ≤ 1 := by
  unfold textE
  split
  · exact .inr ⟨10, [10], rfl, by decide, by decide⟩
  · split
    · exact .inr ⟨11, [], rfl, by decide, by decide⟩
    · split
      · exact .inr ⟨10, [], rfl, by decide, by decide⟩
      · exact .inl rfl
/-- Its Text behind the numbers. -/
theorem rrtext_t (R : Nat) (t : ByteArray) (w : World) (hR : Rdr w R t 23) (ha : 23 ≤ t.size) (hs : t.size ≤ 1000000000) :
    Calls Tryd.prog 36 #[.pointer (some ⟨R, 0, none⟩)] w fun e w' => ∃ d A k c at_, e = .returned (.tuple #[.string d, .agg #[.slice A k c, .int .i64 at_]]) ∧ RF w' A k c (textE t) ∧ (textE t = [] → d = textV t ∧ Rdr w' R t (25 + (tL t).toNat)) ∧ Fr R none w w' := by
  have hn' : 0 ≤ tL t := lev_nonneg (t.extract 23 t.size) 2
  have hb2 := lev2_bounds (t.extract 23 t.size)
  have hb2' : tL t ≤ 65535 := hb2.2
  unfold textE
  by_cases h1 : t.size < 25
  · rw [if_pos h1]
    refine (rrtext_few R 23 t w hR hs ha (by omega)).mono ?_
    rintro e w' ⟨A, at_, rfl, hc, _, hb⟩
    exact ⟨_, A, _, _, at_, rfl, hc, fun h => (by cases h), Fr.ofBelow hb⟩
  · rw [if_neg h1]
    by_cases h2 : 1024 < tL t
    · rw [if_pos h2]
      refine (rrtext_long R 23 (tL t).toNat t w hR hs (by omega) (by show tL t = _; omega) (by omega) (by omega)).mono ?_
      rintro e w' ⟨A, at_, rfl, hc, _, hf⟩
      exact ⟨_, A, _, _, at_, rfl, hc, fun h => (by cases h), hf⟩
    · rw [if_neg h2]
      by_cases h3 : (t.size : Int) < 25 + tL t
      · rw [if_pos h3]
        refine (rrtext_short R 23 (tL t).toNat t w hR hs (by omega) (by show tL t = _; omega) (by omega) (by omega)).mono ?_
        rintro e w' ⟨A, at_, rfl, hc, _, hf⟩
        exact ⟨_, A, _, _, at_, rfl, hc, fun h => (by cases h), hf⟩
      · rw [if_neg h3]
        refine (rrtext_ok R 23 (tL t).toNat t w hR hs (by omega) (by show tL t = _; omega) (by omega) (by omega)).mono ?_
        rintro e w' ⟨rfl, hr, hf⟩
        exact ⟨_, none, 0, 0, 0, rfl, RF.none_, fun _ => ⟨rfl, hr⟩, hf⟩
/-- Its End behind the text. -/
theorem rrend_t (R : Nat) (t : ByteArray) (w : World) (hR : Rdr w R t (25 + (tL t).toNat)) (ht : textE t = []) :
    Calls Tryd.prog 37 #[.pointer (some ⟨R, 0, none⟩)] w fun e w' => ∃ A k c at_, e = .returned (.agg #[.slice A k c, .int .i64 at_]) ∧ RF w' A k c (endE t) ∧ Below w.heap.size w w' := by
  obtain ⟨h1, h2, h3, h4⟩ := textE_ok ht
  unfold endE
  by_cases h : (t.size : Int) = 25 + tL t
  · rw [if_pos h]
    have e : 25 + (tL t).toNat = t.size := by omega
    rw [e] at hR
    refine (rrend_ok R t w hR).mono ?_
    rintro e w' ⟨rfl, hb⟩
    exact ⟨none, 0, 0, 0, rfl, RF.none_, hb⟩
  · rw [if_neg h]
    refine (rrend_bad R _ t w hR (by omega)).mono ?_
    rintro e w' ⟨A, at_, rfl, hc, hb⟩
    exact ⟨A, _, _, at_, rfl, hc, hb⟩
end Go.Proofs.YtjgicapjbibioaaDoor
