/-
  The reader's Text, by contracts.
-/
import Derived.Test.YtjgicapjbibioaaDoorRnum
namespace Go.Proofs.YtjgicapjbibioaaDoor
open Go.RowKit Go.Extern.Stop Go.Stop Go.Extern Go.PlainAid Go.Lib

theorem width2 : Width 2 := .inr (.inl rfl)
theorem lev2_bounds (s : ByteArray) : 0 ≤ lev s 2 ∧ lev s 2 ≤ 65535 := by
  have := bt_nonneg s 0; have := bt_nonneg s 1; have := bt_le s 0; have := bt_le s 1
  simp only [lev]; omega

set_option maxRecDepth 100000 in
theorem rtext_few (b a : Nat) (s : ByteArray) (w : World) (hg : ErrType w) (hR : Rdr w b s a) (ha : a ≤ s.size) (hs : s.size ≤ 1000000000) (hl : s.size - a < 2) :
    Calls Tryd.prog 55 #[.pointer (some ⟨b, 0, none⟩)] w fun e w' => ∃ v, e = .returned (.tuple #[.string ⟨#[]⟩, v]) ∧ Chained w' v [10, 10] ∧ Below w.heap.size w w' := by
  have HG := Lib.hid hg
  have HR := Lib.hid hR
  have hbl := hR.lt
  have hlI : ((s.size - a : Nat) : Int) < 2 := by omega
  have HL := Lib.hid hlI
  obtain ⟨h0, h1, h2⟩ := hR
  clear hg hlI hl
  go_enter Tryd.func55, Tryd.ntmps55
  go_wp2_with fail
  go_at_call 53
  refine (rnum_short w.heap.size a s 2 _ ⟨by simp, by simp, by simp⟩ ha hs width2 HL.out).mono ?_
  rintro e w1 ⟨v, rfl, hc, hb⟩
  have HB := Lib.hid (show Below w.heap.size w w1 from ((Below.refl _ _).alloc (Nat.le_refl _) _).trans (hb.mono (by simp)))
  have HC := Lib.hid hc
  obtain ⟨vb, vo, vu, hvv, _⟩ := hc
  subst hvv
  clear hb h0 h1 h2
  go_wp2_with fail
  go_at_call 9
  refine (code_any _ [10] _ (HG.out.below HB.out) HC.out (by decide)).mono ?_
  rintro e w2 ⟨rfl, hb2⟩
  have HB2 := Lib.hid (HB.out.trans (hb2.mono HB.out.size))
  have HC2 := Lib.hid (HC.out.below hb2)
  clear hb2
  go_wp2_with (go_at_call 64; refine (rfault b a s 10 _ [10] _ (by decide) (HR.out.below HB2.out) HC2.out).mono ?_; rintro e w' ⟨v, rfl, hc, hb⟩)
  go_ret2
  exact ⟨v, rfl, hc, HB2.out.trans (hb.mono HB2.out.size)⟩

set_option maxRecDepth 100000 in
theorem rtext_long (b a : Nat) (s : ByteArray) (w : World) (hR : Rdr w b s a) (ha : a ≤ s.size) (hs : s.size ≤ 1000000000) (hl : 2 ≤ s.size - a) (hL : 1024 < lev (s.extract a s.size) 2) :
    Calls Tryd.prog 55 #[.pointer (some ⟨b, 0, none⟩)] w fun e w' => ∃ v, e = .returned (.tuple #[.string ⟨#[]⟩, v]) ∧ Chained w' v [11] ∧ Below w.heap.size w w' := by
  have HR := Lib.hid hR
  have hbl := hR.lt
  have hb2 := lev2_bounds (s.extract a s.size)
  have hlI : (2 : Int) ≤ ((s.size - a : Nat) : Int) := by omega
  have HL := Lib.hid hlI
  have HN := Lib.hid (fun W hW => rnum_ok w.heap.size a s 2 W hW ha hs width2 HL.out (by show lev (s.extract a s.size) 2 ≤ _; omega) (by show 0 ≤ lev (s.extract a s.size) 2; omega))
  obtain ⟨h0, h1, h2⟩ := hR
  clear hlI hl
  have HN' := Lib.hid (show ∀ W, Rdr W w.heap.size s a → Calls Tryd.prog 53 #[.pointer (some ⟨w.heap.size, 0, none⟩), .int .i64 2] W fun e w' => e = .returned (.tuple #[.int .i64 (lev (s.extract a s.size) 2), .nilIface]) ∧ Rdr w' w.heap.size s (a + 2) ∧ Fr w.heap.size none W w' from fun W hW => HN.out W hW)
  clear HN hb2
  generalize lev (s.extract a s.size) 2 = L at hL HN'
  go_enter Tryd.func55, Tryd.ntmps55
  go_wp2_with fail
  go_at_call 53
  refine (HN'.out _ ⟨by simp, by simp, by simp⟩).mono ?_
  rintro e w1 ⟨rfl, hr1, hf1⟩
  have HB := Lib.hid (show Below w.heap.size w w1 from ((Below.refl _ _).alloc (Nat.le_refl _) _).trans (hf1.below (by simp) (fun g hg => by cases hg)))
  clear hr1 hf1 h0 h1 h2
  go_wp2_with (go_at_call 64; refine (rfault b a s 11 _ [] _ (by decide) (HR.out.below HB.out) rfl).mono ?_; rintro e w' ⟨v, rfl, hc, hb⟩)
  go_ret2
  exact ⟨v, rfl, hc, HB.out.trans (hb.mono HB.out.size)⟩

set_option maxRecDepth 100000 in
theorem rtext_short (b a : Nat) (s : ByteArray) (w : World) (hR : Rdr w b s a) (ha : a ≤ s.size) (hs : s.size ≤ 1000000000) (hl : 2 ≤ s.size - a) (hL : lev (s.extract a s.size) 2 ≤ 1024) (hf : ((s.size - (a + 2) : Nat) : Int) < lev (s.extract a s.size) 2) :
    Calls Tryd.prog 55 #[.pointer (some ⟨b, 0, none⟩)] w fun e w' => ∃ v, e = .returned (.tuple #[.string ⟨#[]⟩, v]) ∧ Chained w' v [10] ∧ Below w.heap.size w w' := by
  have HR := Lib.hid hR
  have hbl := hR.lt
  have hb2 := lev2_bounds (s.extract a s.size)
  have hlI : (2 : Int) ≤ ((s.size - a : Nat) : Int) := by omega
  have HL := Lib.hid hlI
  have HN := Lib.hid (fun W hW => rnum_ok w.heap.size a s 2 W hW ha hs width2 HL.out (by show lev (s.extract a s.size) 2 ≤ _; omega) (by show 0 ≤ lev (s.extract a s.size) 2; omega))
  have HLf := Lib.hid (fun W hW => left_any w.heap.size (a + 2) s W hW (by omega) hs)
  obtain ⟨h0, h1, h2⟩ := hR
  clear hlI hl
  have HN' := Lib.hid (show ∀ W, Rdr W w.heap.size s a → Calls Tryd.prog 53 #[.pointer (some ⟨w.heap.size, 0, none⟩), .int .i64 2] W fun e w' => e = .returned (.tuple #[.int .i64 (lev (s.extract a s.size) 2), .nilIface]) ∧ Rdr w' w.heap.size s (a + 2) ∧ Fr w.heap.size none W w' from fun W hW => HN.out W hW)
  clear HN hb2
  generalize lev (s.extract a s.size) 2 = L at hL HN' hf
  generalize ((s.size - (a + 2) : Nat) : Int) = d at hf HLf
  go_enter Tryd.func55, Tryd.ntmps55
  go_wp2_with fail
  go_at_call 53
  refine (HN'.out _ ⟨by simp, by simp, by simp⟩).mono ?_
  rintro e w1 ⟨rfl, hr1, hf1⟩
  have HB := Lib.hid (show Below w.heap.size w w1 from ((Below.refl _ _).alloc (Nat.le_refl _) _).trans (hf1.below (by simp) (fun g hg => by cases hg)))
  have HR1 := Lib.hid hr1
  clear hr1 hf1 h0 h1 h2
  go_wp2_with fail
  go_at_call 65
  refine (HLf.out _ HR1.out).mono ?_
  rintro e w2 ⟨rfl, hw⟩
  have HB2 := Lib.hid (HB.out.trans (below_of_drew hw w.heap.size))
  clear hw
  go_wp2_with (go_at_call 64; refine (rfault b a s 10 _ [] _ (by decide) (HR.out.below HB2.out) rfl).mono ?_; rintro e w' ⟨v, rfl, hc, hb⟩)
  go_ret2
  exact ⟨v, rfl, hc, HB2.out.trans (hb.mono HB2.out.size)⟩

set_option maxRecDepth 100000 in
theorem rtext_ok (b a L : Nat) (s : ByteArray) (w : World) (hR : Rdr w b s a) (ha : a ≤ s.size) (hs : s.size ≤ 1000000000) (hl : 2 ≤ s.size - a) (hL : lev (s.extract a s.size) 2 = L) (hL2 : L ≤ 1024) (hf : L ≤ s.size - (a + 2)) :
    Calls Tryd.prog 55 #[.pointer (some ⟨b, 0, none⟩)] w fun e w' => e = .returned (.tuple #[.string (s.extract (a + 2) (a + 2 + L)), .nilIface]) ∧ Rdr w' b s (a + 2 + L) ∧ Fr b none w w' := by
  have HR := Lib.hid hR
  have hbl := hR.lt
  have hlI : (2 : Int) ≤ ((s.size - a : Nat) : Int) := by omega
  have HL := Lib.hid hlI
  have HN := Lib.hid (fun W hW => rnum_ok w.heap.size a s 2 W hW ha hs width2 HL.out (by show lev (s.extract a s.size) 2 ≤ _; omega) (by show 0 ≤ lev (s.extract a s.size) 2; omega))
  have HLf := Lib.hid (fun W hW => left_any w.heap.size (a + 2) s W hW (by omega) hs)
  obtain ⟨h0, h1, h2⟩ := hR
  have hfd : decide (((s.size - (a + 2) : Nat) : Int) < (L : Int)) = false := by simp only [decide_eq_false_iff_not]; omega
  have HN' := Lib.hid (show ∀ W, Rdr W w.heap.size s a → Calls Tryd.prog 53 #[.pointer (some ⟨w.heap.size, 0, none⟩), .int .i64 2] W fun e w' => e = .returned (.tuple #[.int .i64 (L : Int), .nilIface]) ∧ Rdr w' w.heap.size s (a + 2) ∧ Fr w.heap.size none W w' from fun W hW => by rw [← hL]; exact HN.out W hW)
  have hLI : (L : Int) ≤ 1024 := by omega
  have hLd : decide ((1024 : Int) < (L : Int)) = false := by simp only [decide_eq_false_iff_not]; omega
  have ha2 : (a : Int) + 2 + L ≤ (s.size : Int) := by omega
  clear HN hlI hL
  generalize ((s.size - (a + 2) : Nat) : Int) = d at hfd HLf
  go_enter Tryd.func55, Tryd.ntmps55
  go_wp2_with fail
  go_at_call 53
  refine (HN'.out _ ⟨by simp, by simp, by simp⟩).mono ?_
  rintro e w1 ⟨rfl, hr1, hf1⟩
  have HB := Lib.hid (show Below w.heap.size w w1 from ((Below.refl _ _).alloc (Nat.le_refl _) _).trans (hf1.below (by simp) (fun g hg => by cases hg)))
  have HR1 := Lib.hid hr1
  clear hr1 hf1 h0 h1 h2
  go_wp2_with fail
  go_at_call 65
  refine (HLf.out _ HR1.out).mono ?_
  rintro e w2 ⟨rfl, hw⟩
  have HB2 := Lib.hid (HB.out.trans (below_of_drew hw w.heap.size))
  obtain ⟨g0, g1, g2⟩ := HR1.out.below (below_of_drew hw _)
  obtain ⟨k0, k1, k2⟩ := HR.out.below HB2.out
  have hne : b ≠ w.heap.size := by omega
  clear hw
  go_wp2
  have hst := Rdr.stored HB2.out ⟨k0, k1, k2⟩ (a + 2 + L)
  have g1' : (w2.setCell ⟨b, 1, none⟩ (.int .i64 ((a + 2 + L : Nat) : Int))).cell? ⟨w.heap.size, 1, none⟩ = some (.int .i64 ((a + 2 : Nat) : Int)) := by
    rw [World.cell?_setCell_other _ _ _ _ (by simp), g1]
  have ec : (a : Int) + 2 + (L : Int) = ((a + 2 + L : Nat) : Int) := by omega
  rw [ec]
  have e3 : ((a + 2 + L : Nat) : Int) ≤ (s.size : Int) := by omega
  have e4 : ((a + 2 : Nat) : Int) ≤ ((a + 2 + L : Nat) : Int) := by omega
  clear g0 g1 g2 k0 k1 k2 ec
  generalize w2.setCell ⟨b, 1, none⟩ (.int .i64 ((a + 2 + L : Nat) : Int)) = w3 at hst g1' ⊢
  obtain ⟨⟨m0, m1, m2⟩, hfr⟩ := hst
  generalize hM : a + 2 + L = M at m1 e3 e4
  have HM := Lib.hid hM
  clear hM
  generalize hN : a + 2 = N at g1' e4
  have HN := Lib.hid hN
  clear hN
  have e6 : (0 : Int) ≤ (N : Int) := Int.natCast_nonneg _
  have e7 : (0 : Int) ≤ (M : Int) := Int.natCast_nonneg _
  have e8 : N ≤ M := by omega
  have e9 : M ≤ s.size := by omega
  clear ha2 hL2 hf hl
  go_quiet (fail)
  go_wp2
  go_ret2
  rw [HM.out, HN.out]
  refine ⟨by simp, ⟨m0, m1, m2⟩, ⟨hfr.os, hfr.tape, hfr.output, hfr.size, hfr.block⟩⟩
end Go.Proofs.YtjgicapjbibioaaDoor
