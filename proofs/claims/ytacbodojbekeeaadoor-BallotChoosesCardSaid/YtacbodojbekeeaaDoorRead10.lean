/-
  The program's reader, and the document's own, by contracts: a number, a text, the end, wherever they stand.
-/
import Derived.Test.YtacbodojbekeeaaDoorMem
import Derived.Test.YtacbodojbekeeaaDoorRrtext
namespace Go.Proofs.YtacbodojbekeeaaDoor
open Go.RowKit Go.Lib Go.PlainAid

theorem bt7_of_lev (s : ByteArray) (a : Nat) (h : a + 8 ≤ s.size) : (lev (s.extract a s.size) 8 ≤ 9223372036854775807 ↔ bt s (a + 7) ≤ 127) := by
  have e := bt_extract s a 7 (by omega)
  generalize s.extract a s.size = T at e ⊢
  have b0 := bt_nonneg T 0; have b1 := bt_nonneg T 1; have b2 := bt_nonneg T 2; have b3 := bt_nonneg T 3; have b4 := bt_nonneg T 4; have b5 := bt_nonneg T 5; have b6 := bt_nonneg T 6; have b7 := bt_nonneg T 7
  have c0 := bt_le T 0; have c1 := bt_le T 1; have c2 := bt_le T 2; have c3 := bt_le T 3; have c4 := bt_le T 4; have c5 := bt_le T 5; have c6 := bt_le T 6; have c7 := bt_le T 7
  rw [← e]
  simp only [lev]
  omega
theorem lev_small (s : ByteArray) (k : Int) (hk : Width k) (h : k ≠ 8) : lev s k.toNat ≤ 9223372036854775807 := by
  have c0 := bt_le s 0; have c1 := bt_le s 1; have c2 := bt_le s 2; have c3 := bt_le s 3
  rcases hk with rfl | rfl | rfl | rfl
  · simp only [Int.reduceToNat, lev]; omega
  · simp only [Int.reduceToNat, lev]; omega
  · simp only [Int.reduceToNat, lev]; omega
  · exact absurd rfl h
theorem rrnum_ok (b a : Nat) (s : ByteArray) (k : Int) (w : World) (hR : Rdr w b s a) (hs : s.size ≤ 1000000000) (hk : Width k) (hl : k ≤ ((s.size - a : Nat) : Int)) (hv : lev (s.extract a s.size) k.toNat ≤ 9223372036854775807) :
    Calls Tryd.prog 49 #[.pointer (some ⟨b, 0, none⟩), .int .i64 k] w fun e w' => e = .returned (.tuple #[.int .i64 (lev (s.extract a s.size) k.toNat), .agg #[.slice none 0 0, .int .i64 0]]) ∧ Rdr w' b s (a + k.toNat) ∧ Fr b none w w' := by
  by_cases h8 : k = 8
  · subst h8
    have hl' : a + 8 ≤ s.size := by omega
    have e := hvf_lev s a 8 hl'
    have hv' : lev (s.extract a s.size) 8 ≤ 9223372036854775807 := hv
    have := rrnum_ok8 b a s w hR hs hl' ((bt7_of_lev s a hl').1 hv') (by rw [e]; exact hv')
    rw [e] at this
    exact this
  · have hw := hk
    unfold Width at hw
    obtain ⟨m, rfl⟩ := Int.eq_ofNat_of_zero_le (show 0 ≤ k by omega)
    have hl' : a + m ≤ s.size := by omega
    have e := hvf_lev s a m hl'
    have := rrnum_okv b a s m w hR hs hl' hk (by omega) (by rw [e]; exact hv)
    rw [e] at this
    exact this
theorem rrnum_long' (b a : Nat) (s : ByteArray) (k : Int) (w : World) (hR : Rdr w b s a) (hs : s.size ≤ 1000000000) (hk : Width k) (hl : k ≤ ((s.size - a : Nat) : Int)) (hv : 9223372036854775807 < lev (s.extract a s.size) k.toNat) :
    Calls Tryd.prog 49 #[.pointer (some ⟨b, 0, none⟩), .int .i64 k] w fun e w' => ∃ A at_, e = .returned (.tuple #[.int .i64 0, .agg #[.slice A 1 1, .int .i64 at_]]) ∧ RF w' A 1 1 [11] ∧ Below w.heap.size w w' := by
  by_cases h8 : k = 8
  · subst h8
    have hl' : a + 8 ≤ s.size := by omega
    refine rrnum_long b a s w hR hs hl' ?_
    have h2 := bt7_of_lev s a hl'
    have hv' : 9223372036854775807 < lev (s.extract a s.size) 8 := hv
    omega
  · have := lev_small (s.extract a s.size) k hk h8; omega

theorem width28 {k : Nat} (hk : k = 2 ∨ k = 8) : Width (k : Int) := by unfold Width; omega
theorem chained_iface {w : World} {v : Value} {e : Int} {es : List Int} (h : Chained w v (e :: es)) : ∃ ty x, v = .iface ty x := by
  obtain ⟨b, o, u, rfl, -⟩ := h; exact ⟨_, _, rfl⟩

/-! ### the program's reader -/
theorem rnumAt (b a : Nat) (t : ByteArray) (k : Nat) (hk : k = 2 ∨ k = 8) (w : World) (hR : Rdr w b t a) (ha : a ≤ t.size) (hs : t.size ≤ 1000000000) :
    Calls Tryd.prog 60 #[.pointer (some ⟨b, 0, none⟩), .int .i64 (k : Int)] w fun e w' => ∃ n v a', e = .returned (.tuple #[.int .i64 n, v]) ∧ Rdr w' b t a' ∧ a' ≤ t.size ∧ Fb b w w' ∧
      ((numAt t a k = some n ∧ v = .nilIface ∧ a' = a + k) ∨ (numAt t a k = none ∧ n = 0 ∧ a' = a ∧ ∃ ty x, v = .iface ty x)) := by
  unfold numAt
  by_cases h1 : t.size < a + k
  · rw [if_pos h1]
    refine (rnum_short b a t k w hR ha hs (width28 hk) (by omega)).mono ?_
    rintro e w' ⟨v, rfl, hc, hb⟩
    exact ⟨0, v, a, rfl, hR.below hb, ha, Fb.of_below hb, .inr ⟨rfl, rfl, rfl, chained_iface hc⟩⟩
  · rw [if_neg h1]
    by_cases h2 : 9223372036854775807 < lev (t.extract a t.size) k
    · rw [if_pos h2]
      refine (rnum_long b a t k w hR ha hs (width28 hk) (by omega) (by rw [Int.toNat_natCast]; exact h2)).mono ?_
      rintro e w' ⟨v, rfl, hc, hb⟩
      exact ⟨0, v, a, rfl, hR.below hb, ha, Fb.of_below hb, .inr ⟨rfl, rfl, rfl, chained_iface hc⟩⟩
    · rw [if_neg h2]
      refine (rnum_ok b a t k w hR ha hs (width28 hk) (by omega) (by rw [Int.toNat_natCast]; omega) (lev_nonneg' _ _)).mono ?_
      rintro e w' ⟨rfl, hr, hf⟩
      rw [Int.toNat_natCast] at hr ⊢
      exact ⟨_, _, a + k, rfl, hr, by omega, hf, .inl ⟨rfl, rfl, rfl⟩⟩
theorem rtextAt (b a : Nat) (t : ByteArray) (w : World) (hg : ErrType w) (hR : Rdr w b t a) (ha : a ≤ t.size) (hs : t.size ≤ 1000000000) :
    Calls Tryd.prog 62 #[.pointer (some ⟨b, 0, none⟩)] w fun e w' => ∃ x v a', e = .returned (.tuple #[.string x, v]) ∧ Rdr w' b t a' ∧ a' ≤ t.size ∧ Fb b w w' ∧
      ((textAt t a = some x ∧ v = .nilIface ∧ a' = a + 2 + x.size) ∨ (textAt t a = none ∧ x = ⟨#[]⟩ ∧ a' = a ∧ ∃ ty x, v = .iface ty x)) := by
  have hn := lev2_bounds (t.extract a t.size)
  unfold textAt
  by_cases h1 : t.size < a + 2
  · rw [if_pos h1]
    refine (rtext_few b a t w hg hR ha hs (by omega)).mono ?_
    rintro e w' ⟨v, rfl, hc, hb⟩
    exact ⟨_, v, a, rfl, hR.below hb, ha, Fb.of_below hb, .inr ⟨rfl, rfl, rfl, chained_iface hc⟩⟩
  · rw [if_neg h1]
    by_cases h2 : 1024 < lev (t.extract a t.size) 2
    · rw [if_pos h2]
      refine (rtext_long b a t w hR ha hs (by omega) h2).mono ?_
      rintro e w' ⟨v, rfl, hc, hb⟩
      exact ⟨_, v, a, rfl, hR.below hb, ha, Fb.of_below hb, .inr ⟨rfl, rfl, rfl, chained_iface hc⟩⟩
    · rw [if_neg h2]
      by_cases h3 : t.size < a + 2 + (lev (t.extract a t.size) 2).toNat
      · rw [if_pos h3]
        refine (rtext_short b a t w hR ha hs (by omega) (by omega) (by omega)).mono ?_
        rintro e w' ⟨v, rfl, hc, hb⟩
        exact ⟨_, v, a, rfl, hR.below hb, ha, Fb.of_below hb, .inr ⟨rfl, rfl, rfl, chained_iface hc⟩⟩
      · rw [if_neg h3]
        refine (rtext_ok b a (lev (t.extract a t.size) 2).toNat t w hR ha hs (by omega) (by omega) (by omega) (by omega)).mono ?_
        rintro e w' ⟨rfl, hr, hf⟩
        have hsz : (t.extract (a + 2) (a + 2 + (lev (t.extract a t.size) 2).toNat)).size = (lev (t.extract a t.size) 2).toNat := by rw [ByteArray.size_extract]; omega
        exact ⟨_, _, _, rfl, hr, by omega, hf, .inl ⟨rfl, rfl, by rw [hsz]⟩⟩
theorem rendAt (b a : Nat) (t : ByteArray) (w : World) (hR : Rdr w b t a) (ha : a ≤ t.size) (hs : t.size ≤ 1000000000) :
    Calls Tryd.prog 63 #[.pointer (some ⟨b, 0, none⟩)] w fun e w' => ∃ v, e = .returned v ∧ Below w.heap.size w w' ∧ ((a = t.size ∧ v = .nilIface) ∨ (a ≠ t.size ∧ ∃ ty x, v = .iface ty x)) := by
  by_cases h1 : a = t.size
  · subst h1
    refine (end_ok b t w hR hs).mono ?_
    rintro e w' ⟨rfl, hb⟩
    exact ⟨_, rfl, hb, .inl ⟨rfl, rfl⟩⟩
  · refine (end_bad b a t w hR (by omega) hs).mono ?_
    rintro e w' ⟨v, rfl, hc, hb⟩
    exact ⟨_, rfl, hb, .inr ⟨h1, chained_iface hc⟩⟩

/-! ### the document's own -/
theorem rrnumAt (b a : Nat) (t : ByteArray) (k : Nat) (hk : k = 2 ∨ k = 8) (w : World) (hR : Rdr w b t a) (ha : a ≤ t.size) (hs : t.size ≤ 1000000000) :
    Calls Tryd.prog 49 #[.pointer (some ⟨b, 0, none⟩), .int .i64 (k : Int)] w fun e w' => ∃ n A m c at_ es a', e = .returned (.tuple #[.int .i64 n, .agg #[.slice A m c, .int .i64 at_]]) ∧ RF w' A m c es ∧ m ≤ 1000 ∧ Rdr w' b t a' ∧ a' ≤ t.size ∧ Fb b w w' ∧
      ((numAt t a k = some n ∧ es.headD 0 = 0 ∧ a' = a + k) ∨ (numAt t a k = none ∧ n = 0 ∧ a' = a ∧ es.headD 0 ≠ 0)) := by
  unfold numAt
  by_cases h1 : t.size < a + k
  · rw [if_pos h1]
    refine (rrnum_short b a t k w hR ha hs (width28 hk) (by omega)).mono ?_
    rintro e w' ⟨A, at_, rfl, hc, hb⟩
    exact ⟨0, A, 1, 1, at_, [10], a, rfl, hc, by omega, hR.below hb, ha, Fb.of_below hb, .inr ⟨rfl, rfl, rfl, by decide⟩⟩
  · rw [if_neg h1]
    by_cases h2 : 9223372036854775807 < lev (t.extract a t.size) k
    · rw [if_pos h2]
      refine (rrnum_long' b a t k w hR hs (width28 hk) (by omega) (by rw [Int.toNat_natCast]; exact h2)).mono ?_
      rintro e w' ⟨A, at_, rfl, hc, hb⟩
      exact ⟨0, A, 1, 1, at_, [11], a, rfl, hc, by omega, hR.below hb, ha, Fb.of_below hb, .inr ⟨rfl, rfl, rfl, by decide⟩⟩
    · rw [if_neg h2]
      refine (rrnum_ok b a t k w hR hs (width28 hk) (by omega) (by rw [Int.toNat_natCast]; omega)).mono ?_
      rintro e w' ⟨rfl, hr, hf⟩
      rw [Int.toNat_natCast] at hr ⊢
      exact ⟨_, none, 0, 0, 0, [], a + k, rfl, RF.none_, by omega, hr, by omega, hf, .inl ⟨rfl, rfl, rfl⟩⟩
theorem rrtextAt (b a : Nat) (t : ByteArray) (w : World) (hR : Rdr w b t a) (ha : a ≤ t.size) (hs : t.size ≤ 1000000000) :
    Calls Tryd.prog 51 #[.pointer (some ⟨b, 0, none⟩)] w fun e w' => ∃ x A m c at_ es a', e = .returned (.tuple #[.string x, .agg #[.slice A m c, .int .i64 at_]]) ∧ RF w' A m c es ∧ m ≤ 1000 ∧ Rdr w' b t a' ∧ a' ≤ t.size ∧ Fb b w w' ∧
      ((textAt t a = some x ∧ es.headD 0 = 0 ∧ a' = a + 2 + x.size) ∨ (textAt t a = none ∧ x = ⟨#[]⟩ ∧ a' = a ∧ es.headD 0 ≠ 0)) := by
  have hn := lev2_bounds (t.extract a t.size)
  unfold textAt
  by_cases h1 : t.size < a + 2
  · rw [if_pos h1]
    refine (rrtext_few b a t w hR hs ha h1).mono ?_
    rintro e w' ⟨A, at_, rfl, hc, hr, hb⟩
    exact ⟨_, A, 2, 2, at_, [10, 10], a, rfl, hc, by omega, hr, ha, Fb.of_below hb, .inr ⟨rfl, rfl, rfl, by decide⟩⟩
  · rw [if_neg h1]
    by_cases h2 : 1024 < lev (t.extract a t.size) 2
    · rw [if_pos h2]
      refine (rrtext_long b a (lev (t.extract a t.size) 2).toNat t w hR hs (by omega) (by omega) (by omega) (by omega)).mono ?_
      rintro e w' ⟨A, at_, rfl, hc, hr, hf⟩
      exact ⟨_, A, 1, 1, at_, [11], a, rfl, hc, by omega, hr, ha, hf, .inr ⟨rfl, rfl, rfl, by decide⟩⟩
    · rw [if_neg h2]
      by_cases h3 : t.size < a + 2 + (lev (t.extract a t.size) 2).toNat
      · rw [if_pos h3]
        refine (rrtext_short b a (lev (t.extract a t.size) 2).toNat t w hR hs (by omega) (by omega) (by omega) (by omega)).mono ?_
        rintro e w' ⟨A, at_, rfl, hc, hr, hf⟩
        exact ⟨_, A, 1, 1, at_, [10], a, rfl, hc, by omega, hr, ha, hf, .inr ⟨rfl, rfl, rfl, by decide⟩⟩
      · rw [if_neg h3]
        refine (rrtext_ok b a (lev (t.extract a t.size) 2).toNat t w hR hs (by omega) (by omega) (by omega) (by omega)).mono ?_
        rintro e w' ⟨rfl, hr, hf⟩
        have hsz : (t.extract (a + 2) (a + 2 + (lev (t.extract a t.size) 2).toNat)).size = (lev (t.extract a t.size) 2).toNat := by rw [ByteArray.size_extract]; omega
        exact ⟨_, none, 0, 0, 0, [], _, rfl, RF.none_, by omega, hr, by omega, hf, .inl ⟨rfl, rfl, by rw [hsz]⟩⟩
theorem rrendAt (b a : Nat) (t : ByteArray) (w : World) (hR : Rdr w b t a) (ha : a ≤ t.size) :
    Calls Tryd.prog 52 #[.pointer (some ⟨b, 0, none⟩)] w fun e w' => ∃ A m c at_ es, e = .returned (.agg #[.slice A m c, .int .i64 at_]) ∧ RF w' A m c es ∧ m ≤ 1000 ∧ Below w.heap.size w w' ∧ ((a = t.size ∧ es.headD 0 = 0) ∨ (a ≠ t.size ∧ es.headD 0 ≠ 0)) := by
  by_cases h1 : a = t.size
  · subst h1
    refine (rrend_ok b t w hR).mono ?_
    rintro e w' ⟨rfl, hb⟩
    exact ⟨none, 0, 0, 0, [], rfl, RF.none_, by omega, hb, .inl ⟨rfl, rfl⟩⟩
  · refine (rrend_bad b a t w hR (by omega)).mono ?_
    rintro e w' ⟨A, at_, rfl, hc, hb⟩
    exact ⟨A, 1, 1, at_, [11], rfl, hc, by omega, hb, .inr ⟨h1, by decide⟩⟩
end Go.Proofs.YtacbodojbekeeaaDoor
