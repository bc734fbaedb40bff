/-
  FieldReads, walked: it answers true, and nothing that was there turns.
-/
import Derived.Test.YtionhkcbobddjaaDoorFresh
namespace Go.Proofs.YtionhkcbobddjaaDoor
open Go.RowKit Go.Extern.Stop Go.Stop Go.Extern Go.PlainAid Go.Lib

theorem Rdr.fr {w w' : World} {b c a : Nat} {s : ByteArray} (h : Rdr w b s a) (hf : Fr c none w w') (hne : b ≠ c) : Rdr w' b s a := by
  have hb := hf.block b h.lt hne (by simp)
  exact ⟨by rw [World.cell?_of_block (w := w) (a := ⟨b, 0, none⟩) hb]; exact h.1, by rw [World.cell?_of_block (w := w) (a := ⟨b, 1, none⟩) hb]; exact h.2.1, by rw [World.frozen?_of_block (w := w) (a := ⟨b, 1, none⟩) hb]; exact h.2.2⟩
theorem rat' (b a : Nat) (s : ByteArray) (w : World) (hR : Rdr w b s a) :
    Calls Tryd.prog 26 #[.pointer (some ⟨b, 0, none⟩)] w fun e w' => e = .returned (.int .i64 a) ∧ w' = w := (rat b a s w hR).mono fun _ _ ⟨h, h'⟩ => ⟨h, h'.symm⟩

theorem bt7_of_lev (s : ByteArray) (a : Nat) (h : a + 8 ≤ s.size) : (lev (s.extract a s.size) 8 ≤ 9223372036854775807 ↔ bt s (a + 7) ≤ 127) := by
  have e := bt_extract s a 7 (by omega)
  generalize s.extract a s.size = T at e ⊢
  have b0 := bt_nonneg T 0; have b1 := bt_nonneg T 1; have b2 := bt_nonneg T 2; have b3 := bt_nonneg T 3; have b4 := bt_nonneg T 4; have b5 := bt_nonneg T 5; have b6 := bt_nonneg T 6; have b7 := bt_nonneg T 7
  have c0 := bt_le T 0; have c1 := bt_le T 1; have c2 := bt_le T 2; have c3 := bt_le T 3; have c4 := bt_le T 4; have c5 := bt_le T 5; have c6 := bt_le T 6; have c7 := bt_le T 7
  rw [← e]
  simp only [lev]
  omega
theorem lev_small (s : ByteArray) (k : Int) (hk : Width k) (h : k ≠ 8) : lev s k.toNat ≤ 9223372036854775807 := by
  have c0 := bt_le s 0; have c1 := bt_le s 1; have c2 := bt_le s 2; have c3 := bt_le s 3
  rcases hk with rfl | rfl | rfl | rfl
  · simp only [Int.reduceToNat, lev]; omega
  · simp only [Int.reduceToNat, lev]; omega
  · simp only [Int.reduceToNat, lev]; omega
  · exact absurd rfl h
theorem lev_nonneg (s : ByteArray) : ∀ k, 0 ≤ lev s k
  | 0 => Int.le_refl _
  | k + 1 => by
    have h1 := lev_nonneg s k
    have h2 : 0 ≤ bt s k * 256 ^ k := Int.mul_nonneg (bt_nonneg s k) (Int.pow_nonneg (by decide))
    simp only [lev]; omega

theorem rrnum_ok (b a : Nat) (s : ByteArray) (k : Int) (w : World) (hR : Rdr w b s a) (hs : s.size ≤ 1000000000) (hk : Width k) (hl : k ≤ ((s.size - a : Nat) : Int)) (hv : lev (s.extract a s.size) k.toNat ≤ 9223372036854775807) :
    Calls Tryd.prog 21 #[.pointer (some ⟨b, 0, none⟩), .int .i64 k] w fun e w' => e = .returned (.tuple #[.int .i64 (lev (s.extract a s.size) k.toNat), .agg #[.slice none 0 0, .int .i64 0]]) ∧ Rdr w' b s (a + k.toNat) ∧ Fr b none w w' := by
  by_cases h8 : k = 8
  · subst h8
    have hl' : a + 8 ≤ s.size := by omega
    have e := hvf_lev s a 8 hl'
    have hv' : lev (s.extract a s.size) 8 ≤ 9223372036854775807 := hv
    have := rrnum_ok8 b a s w hR hs hl' ((bt7_of_lev s a hl').1 hv') (by rw [e]; exact hv')
    rw [e] at this
    exact this
  · have hw := hk
    unfold Width at hw
    obtain ⟨m, rfl⟩ := Int.eq_ofNat_of_zero_le (show 0 ≤ k by omega)
    have hl' : a + m ≤ s.size := by omega
    have e := hvf_lev s a m hl'
    have := rrnum_okv b a s m w hR hs hl' hk (by omega) (by rw [e]; exact hv)
    rw [e] at this
    exact this
theorem rrnum_long' (b a : Nat) (s : ByteArray) (k : Int) (w : World) (hR : Rdr w b s a) (hs : s.size ≤ 1000000000) (hk : Width k) (hl : k ≤ ((s.size - a : Nat) : Int)) (hv : 9223372036854775807 < lev (s.extract a s.size) k.toNat) :
    Calls Tryd.prog 21 #[.pointer (some ⟨b, 0, none⟩), .int .i64 k] w fun e w' => ∃ A at_, e = .returned (.tuple #[.int .i64 0, .agg #[.slice A 1 1, .int .i64 at_]]) ∧ RF w' A 1 1 [11] ∧ Below w.heap.size w w' := by
  by_cases h8 : k = 8
  · subst h8
    have hl' : a + 8 ≤ s.size := by omega
    refine rrnum_long b a s w hR hs hl' ?_
    have h2 := bt7_of_lev s a hl'
    have hv' : 9223372036854775807 < lev (s.extract a s.size) 8 := hv
    omega
  · have := lev_small (s.extract a s.size) k hk h8; omega

set_option maxRecDepth 100000 in
set_option maxHeartbeats 8000000 in
theorem fieldReads_loop (s : ByteArray) (A : Option Addr) (n c : Nat) (kd nn kk : Nat → Int) (ss : Nat → ByteArray) (w : World) (hg : ErrType w) (hs : s.size ≤ 4096) (hn : n ≤ 9223372036854775807) (hss : ∀ i, i < n → (ss i).size ≤ 9223372036854775807) (hS : Steps w A n kd nn kk ss) :
    Calls Tryd.prog 4 #[.string s, .slice A n c] w fun e w' => e = .returned (.bool true) ∧ Below w.heap.size w w' := by
  have HG := Lib.hid hg
  have HS := Lib.hid hS
  have hsI : decide ((4096 : Int) < (s.size : Int)) = false := by simp only [decide_eq_false_iff_not]; omega
  have HH := Lib.hid (heavy_any A n c kd nn kk ss w hn hss hS)
  clear hg hS hss
  go_enter Tryd.func4, Tryd.ntmps4
  go_wp2_with fail
  go_at_call 9
  refine HH.out.mono ?_
  rintro e w' ⟨h, rfl, hh, rfl⟩
  cases h with
  | true =>
    clear hh
    go_wp2
    go_ret
    exact ⟨rfl, Below.refl _ _⟩
  | false =>
  have hn8 := hh rfl
  clear hh
  go_wp2_with fail
  go_at_call 19
  refine (newReader s _).mono ?_
  rintro e w1 ⟨rfl, hR1, hb1, hz1⟩
  have hb2 : Below w1.heap.size w1 (w1.alloc (.cells #[.string s, .int .i64 0] 49)) := (Below.refl _ _).alloc (Nat.le_refl _) _
  have X0 := Lib.hid (hR1.below hb2)
  have Y0 := Lib.hid (show Rdr (w1.alloc (.cells #[.string s, .int .i64 0] 49)) w1.heap.size s 0 from ⟨by simp, by simp, by simp⟩)
  have B0 := Lib.hid (show Below w.heap.size w (w1.alloc (.cells #[.string s, .int .i64 0] 49)) from hb1.alloc (Nat.le_of_lt hz1) _)
  have Z1 := Lib.hid hz1
  clear hR1 hb1 hz1 hb2
  go_wp2
  generalize w1.alloc (.cells #[.string s, .int .i64 0] 49) = w0 at X0 Y0 B0 ⊢
  generalize hB2 : w1.heap.size = Y at Y0 Z1 ⊢
  clear hB2
  have XY := Lib.hid (show w.heap.size ≠ Y by have := Z1.out; omega)
  have ZY := Lib.hid (Nat.le_of_lt Z1.out)
  go_loopw [7] (fun i wr => ∃ k a : Nat, k ≤ n ∧ i = .int .i64 k ∧ a ≤ s.size ∧ Rdr wr w.heap.size s a ∧ Rdr wr Y s a ∧ Below w.heap.size w wr) (fun i _ => n - (intOf i).toNat)
  case atStart => exact ⟨0, 0, Nat.zero_le _, rfl, Nat.zero_le _, X0.out, Y0.out, B0.out⟩
  case round =>
    obtain ⟨k, a, hk, rfl, ha, hX, hY, hB⟩ := hrel
    have RX := Lib.hid hX
    have RY := Lib.hid hY
    have BZ := Lib.hid hB
    have hs9 : s.size ≤ 1000000000 := by omega
    clear hX hY hB
    by_cases hlt : k < n
    · obtain ⟨b, off, hA, c0, c1, c2, c3⟩ := HS.out k hlt
      subst hA
      have hbl := cell_lt c0
      have d0 : wr.cell? ⟨b, off + k * 4, none⟩ = some (.int .i64 (kd k)) := by rw [BZ.out.cell (p := ⟨b, off + k * 4, none⟩) hbl]; exact c0
      have d2 : wr.cell? ⟨b, off + k * 4 + 2, none⟩ = some (.int .i64 (kk k)) := by rw [BZ.out.cell (p := ⟨b, off + k * 4 + 2, none⟩) hbl]; exact c2
      have E2 := Lib.hid c2
      have hlI : (k : Int) < (n : Int) := by omega
      have hkI : (0 : Int) ≤ (k : Int) := by omega
      have hd : decide ((k : Int) < (n : Int)) = true := by simp only [decide_eq_true_eq]; omega
      clear c0 c1 c2 c3
      generalize kd k = q at d0
      generalize kk k = K at d2 E2
      by_cases q0 : q = 0
      · subst q0
        by_cases hWd : Width K
        · by_cases hsh : K ≤ ((s.size - a : Nat) : Int)
          · by_cases hlg : lev (s.extract a s.size) K.toNat ≤ 9223372036854775807
            · have _z := hkI
              go_wp2_with fail
              go_at_call 20
              refine (rnum_ok _ a s K _ RX.out ha hs9 hWd hsh hlg (lev_nonneg _ _)).mono ?_
              rintro e wa ⟨rfl, hxa, hfa⟩
              have Xa := Lib.hid hxa
              have Ya := Lib.hid (RY.out.fr hfa (Ne.symm XY.out))
              have Ba := Lib.hid (BZ.out.trans (hfa.below (Nat.le_of_lt RX.out.lt) (fun g hg => by cases hg)))
              have da : wa.cell? ⟨b, off + k * 4 + 2, none⟩ = some (.int .i64 K) := by rw [Ba.out.cell (p := ⟨b, off + k * 4 + 2, none⟩) hbl]; exact E2.out
              clear hxa hfa d0 d2
              go_wp2_with fail
              go_at_call 21
              refine (rrnum_ok _ a s K _ Ya.out hs9 hWd hsh hlg).mono ?_
              rintro e wb ⟨rfl, hyb, hfb⟩
              have Yb := Lib.hid hyb
              have Xb := Lib.hid (Xa.out.fr hfb XY.out)
              have Bb := Lib.hid (Ba.out.trans ((hfb.below (Nat.le_of_lt Ya.out.lt) (fun g hg => by cases hg)).mono ZY.out))
              have hB5 : Below wb.heap.size wb (wb.alloc (.cells #[.slice none 0 0, .int .i64 0] 38)) := (Below.refl _ _).alloc (Nat.le_refl _) _
              have X5 := Lib.hid (Xb.out.below hB5)
              have Y5 := Lib.hid (Yb.out.below hB5)
              have B5 := Lib.hid (Bb.out.trans (hB5.mono Bb.out.size))
              clear hyb hfb hB5 da
              go_wp2_with fail
              generalize wb.alloc (.cells #[.slice none 0 0, .int .i64 0] 38) = w5 at X5 Y5 B5 ⊢
              go_at_call 11
              refine (alike_yes _ none 0 0 0 [] _ (HG.out.below B5.out) rfl RF.none_ (by decide)).mono ?_
              rintro e w6 ⟨rfl, hb6⟩
              have X6 := Lib.hid (X5.out.below hb6)
              have Y6 := Lib.hid (Y5.out.below hb6)
              have B6 := Lib.hid (B5.out.trans (hb6.mono B5.out.size))
              clear hb6
              obtain ⟨t0, t1, t2⟩ := Y6.out
              go_wp2_with fail
              go_quiet ((go_at_call 26; exact Calls.quiet_of_same (rat' _ (a + K.toNat) s _ (X6.out.below (below_drewN (Below.refl _ _) _)))))
              go_wp2
              go_roundw
              case rel => exact ⟨k + 1, a + K.toNat, by omega, by go_num, (by unfold Width at hWd; omega), X6.out.below (below_drewN (Below.refl _ _) _), Y6.out.below (below_drewN (Below.refl _ _) _), below_drewN B6.out _⟩
              case measure => simp [intOf]; omega
            · have hlg : 9223372036854775807 < lev (s.extract a s.size) K.toNat := by omega
              go_wp2_with fail
              go_at_call 20
              refine (rnum_long _ a s K _ RX.out ha hs9 hWd hsh hlg).mono ?_
              rintro e wa ⟨v, rfl, hca, hba⟩
              have Xa := Lib.hid (RX.out.below hba)
              have Ya := Lib.hid (RY.out.below hba)
              have Ca := Lib.hid hca
              have Ba := Lib.hid (BZ.out.trans (hba.mono BZ.out.size))
              have da : wa.cell? ⟨b, off + k * 4 + 2, none⟩ = some (.int .i64 K) := by rw [Ba.out.cell (p := ⟨b, off + k * 4 + 2, none⟩) hbl]; exact E2.out
              clear hca hba d0 d2
              go_wp2_with fail
              go_at_call 21
              refine (rrnum_long' _ a s K _ Ya.out hs9 hWd hsh hlg).mono ?_
              rintro e wb ⟨Ab, atb, rfl, hrb, hbb⟩
              have Xb := Lib.hid (Xa.out.below hbb)
              have Yb := Lib.hid (Ya.out.below hbb)
              have Cb := Lib.hid (Ca.out.below hbb)
              have Bb := Lib.hid (Ba.out.trans (hbb.mono Ba.out.size))
              have hB5 : Below wb.heap.size wb (wb.alloc (.cells #[.slice Ab 1 1, .int .i64 atb] 38)) := (Below.refl _ _).alloc (Nat.le_refl _) _
              have X5 := Lib.hid (Xb.out.below hB5)
              have Y5 := Lib.hid (Yb.out.below hB5)
              have C5 := Lib.hid (Cb.out.below hB5)
              have R5 := Lib.hid (hrb.below hB5)
              have B5 := Lib.hid (Bb.out.trans (hB5.mono Bb.out.size))
              clear hrb hbb hB5 da
              go_wp2_with fail
              generalize wb.alloc (.cells #[.slice Ab 1 1, .int .i64 atb] 38) = w5 at X5 Y5 C5 R5 B5 ⊢
              go_at_call 11
              refine (alike_yes v Ab 1 1 atb [11] _ (HG.out.below B5.out) C5.out R5.out (by decide)).mono ?_
              rintro e w6 ⟨rfl, hb6⟩
              have X6 := Lib.hid (X5.out.below hb6)
              have Y6 := Lib.hid (Y5.out.below hb6)
              have B6 := Lib.hid (B5.out.trans (hb6.mono B5.out.size))
              clear hb6
              obtain ⟨t0, t1, t2⟩ := Y6.out
              go_wp2_with fail
              go_quiet ((go_at_call 26; exact Calls.quiet_of_same (rat' _ (a) s _ (X6.out.below (below_drewN (Below.refl _ _) _)))))
              go_wp2
              go_roundw
              case rel => exact ⟨k + 1, a, by omega, by go_num, ha, X6.out.below (below_drewN (Below.refl _ _) _), Y6.out.below (below_drewN (Below.refl _ _) _), below_drewN B6.out _⟩
              case measure => simp [intOf]; omega
          · have hsh : ((s.size - a : Nat) : Int) < K := by omega
            go_wp2_with fail
            go_at_call 20
            refine (rnum_short _ a s K _ RX.out ha hs9 hWd hsh).mono ?_
            rintro e wa ⟨v, rfl, hca, hba⟩
            have Xa := Lib.hid (RX.out.below hba)
            have Ya := Lib.hid (RY.out.below hba)
            have Ca := Lib.hid hca
            have Ba := Lib.hid (BZ.out.trans (hba.mono BZ.out.size))
            have da : wa.cell? ⟨b, off + k * 4 + 2, none⟩ = some (.int .i64 K) := by rw [Ba.out.cell (p := ⟨b, off + k * 4 + 2, none⟩) hbl]; exact E2.out
            clear hca hba d0 d2
            go_wp2_with fail
            go_at_call 21
            refine (rrnum_short _ a s K _ Ya.out ha hs9 hWd hsh).mono ?_
            rintro e wb ⟨Ab, atb, rfl, hrb, hbb⟩
            have Xb := Lib.hid (Xa.out.below hbb)
            have Yb := Lib.hid (Ya.out.below hbb)
            have Cb := Lib.hid (Ca.out.below hbb)
            have Bb := Lib.hid (Ba.out.trans (hbb.mono Ba.out.size))
            have hB5 : Below wb.heap.size wb (wb.alloc (.cells #[.slice Ab 1 1, .int .i64 atb] 38)) := (Below.refl _ _).alloc (Nat.le_refl _) _
            have X5 := Lib.hid (Xb.out.below hB5)
            have Y5 := Lib.hid (Yb.out.below hB5)
            have C5 := Lib.hid (Cb.out.below hB5)
            have R5 := Lib.hid (hrb.below hB5)
            have B5 := Lib.hid (Bb.out.trans (hB5.mono Bb.out.size))
            clear hrb hbb hB5 da
            go_wp2_with fail
            generalize wb.alloc (.cells #[.slice Ab 1 1, .int .i64 atb] 38) = w5 at X5 Y5 C5 R5 B5 ⊢
            go_at_call 11
            refine (alike_yes v Ab 1 1 atb [10] _ (HG.out.below B5.out) C5.out R5.out (by decide)).mono ?_
            rintro e w6 ⟨rfl, hb6⟩
            have X6 := Lib.hid (X5.out.below hb6)
            have Y6 := Lib.hid (Y5.out.below hb6)
            have B6 := Lib.hid (B5.out.trans (hb6.mono B5.out.size))
            clear hb6
            obtain ⟨t0, t1, t2⟩ := Y6.out
            go_wp2_with fail
            go_quiet ((go_at_call 26; exact Calls.quiet_of_same (rat' _ (a) s _ (X6.out.below (below_drewN (Below.refl _ _) _)))))
            go_wp2
            go_roundw
            case rel => exact ⟨k + 1, a, by omega, by go_num, ha, X6.out.below (below_drewN (Below.refl _ _) _), Y6.out.below (below_drewN (Below.refl _ _) _), below_drewN B6.out _⟩
            case measure => simp [intOf]; omega
        · have _z := hkI
          go_wp2_with fail
          go_at_call 20
          refine (rnum_arg _ a s K _ RX.out hWd).mono ?_
          rintro e wa ⟨v, rfl, hca, hba⟩
          have Xa := Lib.hid (RX.out.below hba)
          have Ya := Lib.hid (RY.out.below hba)
          have Ca := Lib.hid hca
          have Ba := Lib.hid (BZ.out.trans (hba.mono BZ.out.size))
          have da : wa.cell? ⟨b, off + k * 4 + 2, none⟩ = some (.int .i64 K) := by rw [Ba.out.cell (p := ⟨b, off + k * 4 + 2, none⟩) hbl]; exact E2.out
          clear hca hba d0 d2
          go_wp2_with fail
          go_at_call 21
          refine (rrnum_arg _ a s K _ Ya.out hWd).mono ?_
          rintro e wb ⟨Ab, atb, rfl, hrb, hbb⟩
          have Xb := Lib.hid (Xa.out.below hbb)
          have Yb := Lib.hid (Ya.out.below hbb)
          have Cb := Lib.hid (Ca.out.below hbb)
          have Bb := Lib.hid (Ba.out.trans (hbb.mono Ba.out.size))
          have hB5 : Below wb.heap.size wb (wb.alloc (.cells #[.slice Ab 1 1, .int .i64 atb] 38)) := (Below.refl _ _).alloc (Nat.le_refl _) _
          have X5 := Lib.hid (Xb.out.below hB5)
          have Y5 := Lib.hid (Yb.out.below hB5)
          have C5 := Lib.hid (Cb.out.below hB5)
          have R5 := Lib.hid (hrb.below hB5)
          have B5 := Lib.hid (Bb.out.trans (hB5.mono Bb.out.size))
          clear hrb hbb hB5 da
          go_wp2_with fail
          generalize wb.alloc (.cells #[.slice Ab 1 1, .int .i64 atb] 38) = w5 at X5 Y5 C5 R5 B5 ⊢
          go_at_call 11
          refine (alike_yes v Ab 1 1 atb [1] _ (HG.out.below B5.out) C5.out R5.out (by decide)).mono ?_
          rintro e w6 ⟨rfl, hb6⟩
          have X6 := Lib.hid (X5.out.below hb6)
          have Y6 := Lib.hid (Y5.out.below hb6)
          have B6 := Lib.hid (B5.out.trans (hb6.mono B5.out.size))
          clear hb6
          obtain ⟨t0, t1, t2⟩ := Y6.out
          go_wp2_with fail
          go_quiet ((go_at_call 26; exact Calls.quiet_of_same (rat' _ (a) s _ (X6.out.below (below_drewN (Below.refl _ _) _)))))
          go_wp2
          go_roundw
          case rel => exact ⟨k + 1, a, by omega, by go_num, ha, X6.out.below (below_drewN (Below.refl _ _) _), Y6.out.below (below_drewN (Below.refl _ _) _), below_drewN B6.out _⟩
          case measure => simp [intOf]; omega
      · have z0 : (q == 0) = false := by simpa using q0
        by_cases q1 : q = 1
        · subst q1
          by_cases hfw : s.size < a + 2
          · have _z := hkI
            go_wp2_with fail
            go_at_call 22
            refine (rtext_few _ a s _ (HG.out.below BZ.out) RX.out ha hs9 (by omega)).mono ?_
            rintro e wa ⟨v, rfl, hca, hba⟩
            have Xa := Lib.hid (RX.out.below hba)
            have Ya := Lib.hid (RY.out.below hba)
            have Ca := Lib.hid hca
            have Ba := Lib.hid (BZ.out.trans (hba.mono BZ.out.size))
            clear hca hba d0 d2
            go_wp2_with fail
            go_at_call 23
            refine (rrtext_few _ a s _ Ya.out hs9 ha (by omega)).mono ?_
            rintro e wb ⟨Ab, atb, rfl, hrb, hyb, hfb⟩
            have Xb := Lib.hid (Xa.out.below hfb)
            have Yb := Lib.hid hyb
            have Cb := Lib.hid (Ca.out.below hfb)
            have Bb := Lib.hid (Ba.out.trans (hfb.mono Ba.out.size))
            clear hyb hfb
            have hB5 : Below wb.heap.size wb (wb.alloc (.cells #[.slice Ab 2 2, .int .i64 atb] 38)) := (Below.refl _ _).alloc (Nat.le_refl _) _
            have X5 := Lib.hid (Xb.out.below hB5)
            have Y5 := Lib.hid (Yb.out.below hB5)
            have C5 := Lib.hid (Cb.out.below hB5)
            have R5 := Lib.hid (hrb.below hB5)
            have B5 := Lib.hid (Bb.out.trans (hB5.mono Bb.out.size))
            clear hrb hB5
            go_wp2_with fail
            generalize wb.alloc (.cells #[.slice Ab 2 2, .int .i64 atb] 38) = w5 at X5 Y5 C5 R5 B5 ⊢
            go_at_call 11
            refine (alike_yes v Ab 2 2 atb [10, 10] _ (HG.out.below B5.out) C5.out R5.out (by decide)).mono ?_
            rintro e w6 ⟨rfl, hb6⟩
            have X6 := Lib.hid (X5.out.below hb6)
            have Y6 := Lib.hid (Y5.out.below hb6)
            have B6 := Lib.hid (B5.out.trans (hb6.mono B5.out.size))
            clear hb6
            obtain ⟨t0, t1, t2⟩ := Y6.out
            go_wp2_with fail
            go_quiet ((go_at_call 26; exact Calls.quiet_of_same (rat' _ (a) s _ (X6.out.below (below_drewN (Below.refl _ _) _)))))
            go_wp2
            go_roundw
            case rel => exact ⟨k + 1, a, by omega, by go_num, ha, X6.out.below (below_drewN (Below.refl _ _) _), Y6.out.below (below_drewN (Below.refl _ _) _), below_drewN B6.out _⟩
            case measure => simp [intOf]; omega
          · have hb2 := lev2_bounds (s.extract a s.size)
            obtain ⟨L, hLv⟩ := Int.eq_ofNat_of_zero_le hb2.1
            have hLv : lev (s.extract a s.size) 2 = (L : Int) := hLv
            have hL6 : L ≤ 65535 := by omega
            clear hb2
            by_cases hL1 : L ≤ 1024
            · by_cases hL2 : a + 2 + L ≤ s.size
              · have _z := hkI
                go_wp2_with fail
                go_at_call 22
                refine (rtext_ok _ a L s _ RX.out ha hs9 (by omega) hLv (by omega) (by omega)).mono ?_
                rintro e wa ⟨rfl, hxa, hfa⟩
                have Xa := Lib.hid hxa
                have Ya := Lib.hid (RY.out.fr hfa (Ne.symm XY.out))
                have Ba := Lib.hid (BZ.out.trans (hfa.below (Nat.le_of_lt RX.out.lt) (fun g hg => by cases hg)))
                clear hxa hfa d0 d2
                go_wp2_with fail
                go_at_call 23
                refine (rrtext_ok _ a L s _ Ya.out hs9 (by omega) hLv (by omega) (by omega)).mono ?_
                rintro e wb ⟨rfl, hyb, hfb⟩
                have Yb := Lib.hid hyb
                have Xb := Lib.hid (Xa.out.fr hfb XY.out)
                have Bb := Lib.hid (Ba.out.trans ((hfb.below (Nat.le_of_lt Ya.out.lt) (fun g hg => by cases hg)).mono ZY.out))
                have hB5 : Below wb.heap.size wb (wb.alloc (.cells #[.slice none 0 0, .int .i64 0] 38)) := (Below.refl _ _).alloc (Nat.le_refl _) _
                have X5 := Lib.hid (Xb.out.below hB5)
                have Y5 := Lib.hid (Yb.out.below hB5)
                have B5 := Lib.hid (Bb.out.trans (hB5.mono Bb.out.size))
                have HLv := Lib.hid hLv
                clear hyb hfb hB5 hLv
                go_wp2_with fail
                generalize wb.alloc (.cells #[.slice none 0 0, .int .i64 0] 38) = w5 at X5 Y5 B5 ⊢
                go_at_call 11
                refine (alike_yes _ none 0 0 0 [] _ (HG.out.below B5.out) rfl RF.none_ (by decide)).mono ?_
                rintro e w6 ⟨rfl, hb6⟩
                have X6 := Lib.hid (X5.out.below hb6)
                have Y6 := Lib.hid (Y5.out.below hb6)
                have B6 := Lib.hid (B5.out.trans (hb6.mono B5.out.size))
                clear hb6
                obtain ⟨t0, t1, t2⟩ := Y6.out
                go_wp2_with fail
                go_quiet ((go_at_call 26; exact Calls.quiet_of_same (rat' _ (a + 2 + L) s _ (X6.out.below (below_drewN (Below.refl _ _) _)))))
                go_wp2
                go_roundw
                case rel => exact ⟨k + 1, a + 2 + L, by omega, by go_num, (by omega), X6.out.below (below_drewN (Below.refl _ _) _), Y6.out.below (below_drewN (Below.refl _ _) _), below_drewN B6.out _⟩
                case measure => simp [intOf]; omega
              · have _z := hkI
                go_wp2_with fail
                go_at_call 22
                refine (rtext_short' _ a s _ RX.out ha hs9 (by omega) (by rw [hLv]; omega) (by rw [hLv]; omega)).mono ?_
                rintro e wa ⟨v, rfl, hca, hba, hva⟩
                have Xa := Lib.hid (RX.out.below hba)
                have Ya := Lib.hid (RY.out.below hba)
                have Ca := Lib.hid hca
                have Ba := Lib.hid (BZ.out.trans (hba.mono BZ.out.size))
                have Va := Lib.hid (hva.mono (Nat.le_refl _))
                have LY := Lib.hid RY.out.lt
                clear hva
                clear hca hba d0 d2
                go_wp2_with fail
                go_at_call 23
                refine (rrtext_short _ a L s _ Ya.out hs9 (by omega) hLv (by omega) (by omega)).mono ?_
                rintro e wb ⟨Ab, atb, rfl, hrb, hyb, hfb⟩
                have Xb := Lib.hid (Xa.out.fr hfb XY.out)
                have Yb := Lib.hid hyb
                have Cb := Lib.hid (Ca.out.fr hfb Va.out LY.out)
                have Bb := Lib.hid (Ba.out.trans ((hfb.below (Nat.le_of_lt Ya.out.lt) (fun g hg => by cases hg)).mono ZY.out))
                clear hyb hfb hLv
                have hB5 : Below wb.heap.size wb (wb.alloc (.cells #[.slice Ab 1 1, .int .i64 atb] 38)) := (Below.refl _ _).alloc (Nat.le_refl _) _
                have X5 := Lib.hid (Xb.out.below hB5)
                have Y5 := Lib.hid (Yb.out.below hB5)
                have C5 := Lib.hid (Cb.out.below hB5)
                have R5 := Lib.hid (hrb.below hB5)
                have B5 := Lib.hid (Bb.out.trans (hB5.mono Bb.out.size))
                clear hrb hB5
                go_wp2_with fail
                generalize wb.alloc (.cells #[.slice Ab 1 1, .int .i64 atb] 38) = w5 at X5 Y5 C5 R5 B5 ⊢
                go_at_call 11
                refine (alike_yes v Ab 1 1 atb [10] _ (HG.out.below B5.out) C5.out R5.out (by decide)).mono ?_
                rintro e w6 ⟨rfl, hb6⟩
                have X6 := Lib.hid (X5.out.below hb6)
                have Y6 := Lib.hid (Y5.out.below hb6)
                have B6 := Lib.hid (B5.out.trans (hb6.mono B5.out.size))
                clear hb6
                obtain ⟨t0, t1, t2⟩ := Y6.out
                go_wp2_with fail
                go_quiet ((go_at_call 26; exact Calls.quiet_of_same (rat' _ (a) s _ (X6.out.below (below_drewN (Below.refl _ _) _)))))
                go_wp2
                go_roundw
                case rel => exact ⟨k + 1, a, by omega, by go_num, ha, X6.out.below (below_drewN (Below.refl _ _) _), Y6.out.below (below_drewN (Below.refl _ _) _), below_drewN B6.out _⟩
                case measure => simp [intOf]; omega
            · have _z := hkI
              go_wp2_with fail
              go_at_call 22
              refine (rtext_long' _ a s _ RX.out ha hs9 (by omega) (by rw [hLv]; omega)).mono ?_
              rintro e wa ⟨v, rfl, hca, hba, hva⟩
              have Xa := Lib.hid (RX.out.below hba)
              have Ya := Lib.hid (RY.out.below hba)
              have Ca := Lib.hid hca
              have Ba := Lib.hid (BZ.out.trans (hba.mono BZ.out.size))
              have Va := Lib.hid (hva.mono (Nat.le_refl _))
              have LY := Lib.hid RY.out.lt
              clear hva
              clear hca hba d0 d2
              go_wp2_with fail
              go_at_call 23
              refine (rrtext_long _ a L s _ Ya.out hs9 (by omega) hLv (by omega) (by omega)).mono ?_
              rintro e wb ⟨Ab, atb, rfl, hrb, hyb, hfb⟩
              have Xb := Lib.hid (Xa.out.fr hfb XY.out)
              have Yb := Lib.hid hyb
              have Cb := Lib.hid (Ca.out.fr hfb Va.out LY.out)
              have Bb := Lib.hid (Ba.out.trans ((hfb.below (Nat.le_of_lt Ya.out.lt) (fun g hg => by cases hg)).mono ZY.out))
              clear hyb hfb hLv
              have hB5 : Below wb.heap.size wb (wb.alloc (.cells #[.slice Ab 1 1, .int .i64 atb] 38)) := (Below.refl _ _).alloc (Nat.le_refl _) _
              have X5 := Lib.hid (Xb.out.below hB5)
              have Y5 := Lib.hid (Yb.out.below hB5)
              have C5 := Lib.hid (Cb.out.below hB5)
              have R5 := Lib.hid (hrb.below hB5)
              have B5 := Lib.hid (Bb.out.trans (hB5.mono Bb.out.size))
              clear hrb hB5
              go_wp2_with fail
              generalize wb.alloc (.cells #[.slice Ab 1 1, .int .i64 atb] 38) = w5 at X5 Y5 C5 R5 B5 ⊢
              go_at_call 11
              refine (alike_yes v Ab 1 1 atb [11] _ (HG.out.below B5.out) C5.out R5.out (by decide)).mono ?_
              rintro e w6 ⟨rfl, hb6⟩
              have X6 := Lib.hid (X5.out.below hb6)
              have Y6 := Lib.hid (Y5.out.below hb6)
              have B6 := Lib.hid (B5.out.trans (hb6.mono B5.out.size))
              clear hb6
              obtain ⟨t0, t1, t2⟩ := Y6.out
              go_wp2_with fail
              go_quiet ((go_at_call 26; exact Calls.quiet_of_same (rat' _ (a) s _ (X6.out.below (below_drewN (Below.refl _ _) _)))))
              go_wp2
              go_roundw
              case rel => exact ⟨k + 1, a, by omega, by go_num, ha, X6.out.below (below_drewN (Below.refl _ _) _), Y6.out.below (below_drewN (Below.refl _ _) _), below_drewN B6.out _⟩
              case measure => simp [intOf]; omega
        · have z1 : (q == 1) = false := by simpa using q1
          by_cases q2 : q = 2
          · subst q2
            by_cases hend : a = s.size
            · subst hend
              go_wp2_with fail
              go_at_call 24
              refine (end_ok _ s _ RX.out hs9).mono ?_
              rintro e wa ⟨rfl, hba⟩
              have Xa := Lib.hid (RX.out.below hba)
              have Ya := Lib.hid (RY.out.below hba)
              have Ba := Lib.hid (BZ.out.trans (hba.mono BZ.out.size))
              clear hba d0 d2
              go_wp2_with fail
              go_at_call 25
              refine (rrend_ok _ s _ Ya.out).mono ?_
              rintro e wb ⟨rfl, hbb⟩
              have Xb := Lib.hid (Xa.out.below hbb)
              have Yb := Lib.hid (Ya.out.below hbb)
              have Bb := Lib.hid (Ba.out.trans (hbb.mono Ba.out.size))
              clear hbb
              go_wp2_with fail
              go_at_call 11
              refine (alike_yes _ none 0 0 0 [] _ (HG.out.below Bb.out) rfl RF.none_ (by decide)).mono ?_
              rintro e w6 ⟨rfl, hb6⟩
              have X6 := Lib.hid (Xb.out.below hb6)
              have Y6 := Lib.hid (Yb.out.below hb6)
              have B6 := Lib.hid (Bb.out.trans (hb6.mono Bb.out.size))
              clear hb6
              obtain ⟨t0, t1, t2⟩ := Y6.out
              go_wp2_with fail
              go_quiet ((go_at_call 26; exact Calls.quiet_of_same (rat' _ (s.size) s _ (X6.out.below (below_drewN (Below.refl _ _) _)))))
              go_wp2
              go_roundw
              case rel => exact ⟨k + 1, s.size, by omega, by go_num, Nat.le_refl _, X6.out.below (below_drewN (Below.refl _ _) _), Y6.out.below (below_drewN (Below.refl _ _) _), below_drewN B6.out _⟩
              case measure => simp [intOf]; omega
            · have _z := hkI
              go_wp2_with fail
              go_at_call 24
              refine (end_bad _ a s _ RX.out (by omega) hs9).mono ?_
              rintro e wa ⟨v, rfl, hca, hba⟩
              have Xa := Lib.hid (RX.out.below hba)
              have Ya := Lib.hid (RY.out.below hba)
              have Ca := Lib.hid hca
              have Ba := Lib.hid (BZ.out.trans (hba.mono BZ.out.size))
              clear hca hba d0 d2
              go_wp2_with fail
              go_at_call 25
              refine (rrend_bad _ a s _ Ya.out (by omega)).mono ?_
              rintro e wb ⟨Ab, atb, rfl, hrb, hbb⟩
              have Xb := Lib.hid (Xa.out.below hbb)
              have Yb := Lib.hid (Ya.out.below hbb)
              have Cb := Lib.hid (Ca.out.below hbb)
              have Rb := Lib.hid hrb
              have Bb := Lib.hid (Ba.out.trans (hbb.mono Ba.out.size))
              clear hrb hbb
              go_wp2_with fail
              go_at_call 11
              refine (alike_yes v Ab 1 1 atb [11] _ (HG.out.below Bb.out) Cb.out Rb.out (by decide)).mono ?_
              rintro e w6 ⟨rfl, hb6⟩
              have X6 := Lib.hid (Xb.out.below hb6)
              have Y6 := Lib.hid (Yb.out.below hb6)
              have B6 := Lib.hid (Bb.out.trans (hb6.mono Bb.out.size))
              clear hb6
              obtain ⟨t0, t1, t2⟩ := Y6.out
              go_wp2_with fail
              go_quiet ((go_at_call 26; exact Calls.quiet_of_same (rat' _ (a) s _ (X6.out.below (below_drewN (Below.refl _ _) _)))))
              go_wp2
              go_roundw
              case rel => exact ⟨k + 1, a, by omega, by go_num, ha, X6.out.below (below_drewN (Below.refl _ _) _), Y6.out.below (below_drewN (Below.refl _ _) _), below_drewN B6.out _⟩
              case measure => simp [intOf]; omega
          · have z2 : (q == 2) = false := by simpa using q2
            clear d2
            obtain ⟨t0, t1, t2⟩ := RY.out
            go_wp2_with fail
            go_quiet ((go_at_call 26; exact Calls.quiet_of_same (rat' _ (a) s _ (RX.out.below (below_drewN (Below.refl _ _) _)))))
            go_wp2
            go_roundw
            case rel => exact ⟨k + 1, a, by omega, by go_num, ha, RX.out.below (below_drewN (Below.refl _ _) _), RY.out.below (below_drewN (Below.refl _ _) _), below_drewN BZ.out _⟩
            case measure => simp [intOf]; omega
    · have hd : decide ((k : Int) < (n : Int)) = false := by simp only [decide_eq_false_iff_not]; omega
      go_wp2_with fail
      go_at_call 20
      refine (rnum_arg _ a s 3 _ RX.out (by unfold Width; omega)).mono ?_
      rintro e w5 ⟨v, rfl, hch, hb5⟩
      have B5 := Lib.hid (BZ.out.trans (hb5.mono BZ.out.size))
      have HC := Lib.hid hch
      clear hb5 hch
      go_wp2_with fail
      go_at_call 18
      refine (code_any v [1] _ (HG.out.below B5.out) HC.out (by decide)).mono ?_
      rintro e w6 ⟨rfl, hb6⟩
      have B6 := Lib.hid (B5.out.trans (hb6.mono B5.out.size))
      clear hb6
      go_wp2
      go_ret
      exact ⟨rfl, B6.out⟩
end Go.Proofs.YtionhkcbobddjaaDoor
