/-
  FieldWrites, walked: it answers true, and nothing that was there turns.
-/
import Derived.Test.YtionhkcbobddjaaDoorHeavy
namespace Go.Proofs.YtionhkcbobddjaaDoor
open Go.RowKit Go.Extern.Stop Go.Stop Go.Extern Go.PlainAid Go.Lib

set_option maxRecDepth 100000 in
set_option maxHeartbeats 4000000 in
theorem fieldWrites_any (A : Option Addr) (n c : Nat) (kd nn kk : Nat → Int) (ss : Nat → ByteArray) (w : World) (hg : ErrType w) (hn : n ≤ 9223372036854775807) (hnn : ∀ i, i < n → nn i ≤ 9223372036854775807) (hss : ∀ i, i < n → (ss i).size ≤ 9223372036854775807) (hS : Steps w A n kd nn kk ss) :
    Calls Tryd.prog 3 #[.slice A n c] w fun e w' => e = .returned (.bool true) ∧ Below w.heap.size w w' := by
  have HG := Lib.hid hg
  have HS := Lib.hid hS
  have HN := Lib.hid hnn
  have HH := Lib.hid (heavy_any A n c kd nn kk ss w hn hss hS)
  clear hg hS hnn hss
  go_enter Tryd.func3, Tryd.ntmps3
  go_wp2_with fail
  go_at_call 9
  refine HH.out.mono ?_
  rintro e w' ⟨h, rfl, hh, rfl⟩
  cases h with
  | true =>
    clear hh
    go_wp2
    go_ret
    exact ⟨rfl, Below.refl _ _⟩
  | false =>
  have hn8 := hh rfl
  clear hh
  go_wp2_with fail
  go_at_call 10
  refine (newWriter _).mono ?_
  rintro e w1 ⟨rfl, hW1, hb1, hz1⟩
  have T0 := Lib.hid (show Two (w1.alloc (.cells #[.slice none 0 0] 29)) w.heap.size none [] w1.heap.size none [] from
    ⟨hW1.below ((Below.refl _ _).alloc (Nat.le_refl _) _), ⟨.slice none 0 0, by simp, by simp, World.ownsRow_nil _ _ _ _, rfl⟩, by omega, by simp, by simp, by simp⟩)
  have B0 := Lib.hid (show Below w.heap.size w (w1.alloc (.cells #[.slice none 0 0] 29)) from hb1.alloc (Nat.le_of_lt hz1) _)
  have Z1 := Lib.hid (Nat.le_of_lt hz1)
  clear hW1 hb1 hz1
  go_wp2
  generalize w1.alloc (.cells #[.slice none 0 0] 29) = w0 at T0 B0 ⊢
  generalize hB2 : w1.heap.size = B2 at T0 Z1 ⊢
  clear hB2
  go_loopw [5] (fun i wr => ∃ (k : Nat) (r1 r2 : Option Nat) (bs : List Int), k ≤ n ∧ i = .int .i64 k ∧ Two wr w.heap.size r1 bs B2 r2 bs ∧ bs.length ≤ k * 1034 ∧ Below w.heap.size w wr) (fun i _ => n - (intOf i).toNat)
  case atStart => exact ⟨0, none, none, [], Nat.zero_le _, rfl, T0.out, by simp, B0.out⟩
  case round =>
    obtain ⟨k, r1, r2, bs, hk, rfl, hT, hl, hB⟩ := hrel
    have hBd : Below wr.heap.size wr wr.drew := (Below.refl _ _).drew
    have Tz := Lib.hid (hT.below hBd)
    have Bz := Lib.hid (hB.drew)
    have Tr := Lib.hid hT
    have Br := Lib.hid hB
    have HL := Lib.hid hl
    clear hBd hT hB hl
    by_cases hlt : k < n
    · obtain ⟨b, off, hA, c0, c1, c2, c3⟩ := HS.out k hlt
      subst hA
      have hbl := cell_lt c0
      have d0 : wr.cell? ⟨b, off + k * 4, none⟩ = some (.int .i64 (kd k)) := by rw [Br.out.cell (p := ⟨b, off + k * 4, none⟩) hbl]; exact c0
      have d1 : wr.cell? ⟨b, off + k * 4 + 1, none⟩ = some (.int .i64 (nn k)) := by rw [Br.out.cell (p := ⟨b, off + k * 4 + 1, none⟩) hbl]; exact c1
      have d2 : wr.cell? ⟨b, off + k * 4 + 2, none⟩ = some (.int .i64 (kk k)) := by rw [Br.out.cell (p := ⟨b, off + k * 4 + 2, none⟩) hbl]; exact c2
      have d3 : wr.cell? ⟨b, off + k * 4 + 3, none⟩ = some (.string (ss k)) := by rw [Br.out.cell (p := ⟨b, off + k * 4 + 3, none⟩) hbl]; exact c3
      have E1 := Lib.hid c1
      have E2 := Lib.hid c2
      have E3 := Lib.hid c3
      have hN := HN.out k hlt
      have HNk := Lib.hid hN
      have hlI : (k : Int) < (n : Int) := by omega
      have hkI : (0 : Int) ≤ (k : Int) := by omega
      have hd : decide ((k : Int) < (n : Int)) = true := by simp only [decide_eq_true_eq]; omega
      have hlen : bs.length ≤ 10000000 := by have := HL.out; omega
      clear c0 c1 c2 c3 hN
      generalize kd k = q at d0
      generalize nn k = N at d1 E1 HNk
      generalize kk k = K at d2 E2
      generalize ss k = S at d3 E3
      by_cases q0 : q = 0
      · subst q0
        clear d3 E3
        by_cases hFt : Fits N K
        · have HFt := Lib.hid hFt
          clear hFt
          go_wp2_with fail
          go_region_held3 (fun w' => w'.cell? ⟨b, off + k * 4 + 1, none⟩ = some (.int .i64 N) ∧ w'.cell? ⟨b, off + k * 4 + 2, none⟩ = some (.int .i64 K))
            (first | go_keep | exact ⟨xc1, xc2⟩ | exact ⟨xb1, xb2⟩ | exact ⟨xa1, xa2⟩)
            (first
              | (go_at_call 12; refine (num_ok _ _ _ N K _ HFt.out Tz.out.1 (by omega)).mono ?_; rintro e wxa ⟨rfl, ra, hWx, hrx, hfx⟩; have Ta := Lib.hid (Tz.out.step hWx hrx hfx); have Ba := Lib.hid (Bz.out.trans ((hfx.below (Nat.le_of_lt Tz.out.1.lt) (fun g hg => (Tz.out.1.row_lt hg).1)).mono (Nat.le_refl _))); clear hWx hrx hfx; (have xa1 : wxa.cell? ⟨b, off + k * 4 + 1, none⟩ = some (.int .i64 N) := by rw [Ba.out.cell (p := ⟨b, off + k * 4 + 1, none⟩) hbl]; exact E1.out); (have xa2 : wxa.cell? ⟨b, off + k * 4 + 2, none⟩ = some (.int .i64 K) := by rw [Ba.out.cell (p := ⟨b, off + k * 4 + 2, none⟩) hbl]; exact E2.out))
              | (go_at_call 13; refine (refnum_ok _ _ _ N K _ HFt.out Ta.out.swap.1 (by omega)).mono ?_; rintro e wxb ⟨rfl, rb, hWx, hrx, hfx⟩; have Tb := Lib.hid (Ta.out.swap.step hWx hrx hfx).swap; have Bb := Lib.hid (Ba.out.trans ((hfx.below (Nat.le_of_lt Ta.out.swap.1.lt) (fun g hg => (Ta.out.swap.1.row_lt hg).1)).mono Z1.out)); clear hWx hrx hfx; (have xb1 : wxb.cell? ⟨b, off + k * 4 + 1, none⟩ = some (.int .i64 N) := by rw [Bb.out.cell (p := ⟨b, off + k * 4 + 1, none⟩) hbl]; exact E1.out); (have xb2 : wxb.cell? ⟨b, off + k * 4 + 2, none⟩ = some (.int .i64 K) := by rw [Bb.out.cell (p := ⟨b, off + k * 4 + 2, none⟩) hbl]; exact E2.out))
              | (go_at_call 11; refine (alike_yes _ none 0 0 0 [] _ (HG.out.below Bb.out) rfl RF.none_ (by decide)).mono ?_; rintro e wxc ⟨rfl, hbx⟩; have Tc := Lib.hid (Tb.out.below hbx); have Bc := Lib.hid (Bb.out.trans (hbx.mono Bb.out.size)); clear hbx; (have xc1 : wxc.cell? ⟨b, off + k * 4 + 1, none⟩ = some (.int .i64 N) := by rw [Bc.out.cell (p := ⟨b, off + k * 4 + 1, none⟩) hbl]; exact E1.out); (have xc2 : wxc.cell? ⟨b, off + k * 4 + 2, none⟩ = some (.int .i64 K) := by rw [Bc.out.cell (p := ⟨b, off + k * 4 + 2, none⟩) hbl]; exact E2.out)))
          go_wp2
          go_roundw
          case rel =>
            refine ⟨k + 1, _, _, _, by omega, by go_num, Tc.out, ?_, Bc.out⟩
            rw [List.length_append, leb_len N K.toNat (by have := HFt.out; unfold Fits at this; omega)]; have := HFt.out; unfold Fits at this; have := HL.out; omega
          case measure => simp [intOf]; omega
        · have HFt := Lib.hid hFt
          clear hFt
          go_wp2_with fail
          go_region_held3 (fun w' => w'.cell? ⟨b, off + k * 4 + 1, none⟩ = some (.int .i64 N) ∧ w'.cell? ⟨b, off + k * 4 + 2, none⟩ = some (.int .i64 K))
            (first | go_keep | exact ⟨xc1, xc2⟩ | exact ⟨xb1, xb2⟩ | exact ⟨xa1, xa2⟩)
            (first
              | (go_at_call 12; refine (num_bad _ _ _ N K _ HFt.out HNk.out Tz.out.1).mono ?_; rintro e wxa ⟨v, rfl, hcx, hbx⟩; have Ta := Lib.hid (Tz.out.below hbx); have Ba := Lib.hid (Bz.out.trans (hbx.mono Bz.out.size)); have Ca := Lib.hid hcx; clear hbx hcx; (have xa1 : wxa.cell? ⟨b, off + k * 4 + 1, none⟩ = some (.int .i64 N) := by rw [Ba.out.cell (p := ⟨b, off + k * 4 + 1, none⟩) hbl]; exact E1.out); (have xa2 : wxa.cell? ⟨b, off + k * 4 + 2, none⟩ = some (.int .i64 K) := by rw [Ba.out.cell (p := ⟨b, off + k * 4 + 2, none⟩) hbl]; exact E2.out))
              | (go_at_call 13; refine (refnum_bad _ _ _ N K _ HFt.out HNk.out Ta.out.swap.1).mono ?_; rintro e wxb ⟨Ab, atb, rfl, hRx, hbx⟩; have Tb := Lib.hid (Ta.out.below hbx); have Bb := Lib.hid (Ba.out.trans (hbx.mono Ba.out.size)); have Cb := Lib.hid (Ca.out.below hbx); have Rb := Lib.hid hRx; clear hbx hRx; (have xb1 : wxb.cell? ⟨b, off + k * 4 + 1, none⟩ = some (.int .i64 N) := by rw [Bb.out.cell (p := ⟨b, off + k * 4 + 1, none⟩) hbl]; exact E1.out); (have xb2 : wxb.cell? ⟨b, off + k * 4 + 2, none⟩ = some (.int .i64 K) := by rw [Bb.out.cell (p := ⟨b, off + k * 4 + 2, none⟩) hbl]; exact E2.out))
              | (go_at_call 11; refine (alike_yes v Ab 1 1 atb [1] _ (HG.out.below Bb.out) Cb.out Rb.out (by decide)).mono ?_; rintro e wxc ⟨rfl, hbx⟩; have Tc := Lib.hid (Tb.out.below hbx); have Bc := Lib.hid (Bb.out.trans (hbx.mono Bb.out.size)); clear hbx; (have xc1 : wxc.cell? ⟨b, off + k * 4 + 1, none⟩ = some (.int .i64 N) := by rw [Bc.out.cell (p := ⟨b, off + k * 4 + 1, none⟩) hbl]; exact E1.out); (have xc2 : wxc.cell? ⟨b, off + k * 4 + 2, none⟩ = some (.int .i64 K) := by rw [Bc.out.cell (p := ⟨b, off + k * 4 + 2, none⟩) hbl]; exact E2.out)))
          go_wp2
          go_roundw
          case rel =>
            refine ⟨k + 1, _, _, _, by omega, by go_num, Tc.out, ?_, Bc.out⟩
            have := HL.out; omega
          case measure => simp [intOf]; omega
      · by_cases q1 : q = 1
        · subst q1
          clear d1 d2 E1 E2
          by_cases hSz : S.size ≤ 1024
          · skip
            go_wp2_with fail
            go_region_held3 (fun w' => w'.cell? ⟨b, off + k * 4 + 3, none⟩ = some (.string S))
              (first | go_keep | exact xc1 | exact xb1 | exact xa1)
              (first
                | (go_at_call 14; refine (text_ok _ _ _ S _ hSz Tz.out.1 (by omega)).mono ?_; rintro e wxa ⟨rfl, ra, hWx, hrx, hfx⟩; have Ta := Lib.hid (Tz.out.step hWx hrx hfx); have Ba := Lib.hid (Bz.out.trans ((hfx.below (Nat.le_of_lt Tz.out.1.lt) (fun g hg => (Tz.out.1.row_lt hg).1)).mono (Nat.le_refl _))); clear hWx hrx hfx; (have xa1 : wxa.cell? ⟨b, off + k * 4 + 3, none⟩ = some (.string S) := by rw [Ba.out.cell (p := ⟨b, off + k * 4 + 3, none⟩) hbl]; exact E3.out))
                | (go_at_call 15; refine (reftext_ok _ _ _ S _ hSz Ta.out.swap.1 (by omega)).mono ?_; rintro e wxb ⟨rfl, rb, hWx, hrx, hfx⟩; have Tb := Lib.hid (Ta.out.swap.step hWx hrx hfx).swap; have Bb := Lib.hid (Ba.out.trans ((hfx.below (Nat.le_of_lt Ta.out.swap.1.lt) (fun g hg => (Ta.out.swap.1.row_lt hg).1)).mono Z1.out)); clear hWx hrx hfx; (have xb1 : wxb.cell? ⟨b, off + k * 4 + 3, none⟩ = some (.string S) := by rw [Bb.out.cell (p := ⟨b, off + k * 4 + 3, none⟩) hbl]; exact E3.out))
                | (go_at_call 11; refine (alike_yes _ none 0 0 0 [] _ (HG.out.below Bb.out) rfl RF.none_ (by decide)).mono ?_; rintro e wxc ⟨rfl, hbx⟩; have Tc := Lib.hid (Tb.out.below hbx); have Bc := Lib.hid (Bb.out.trans (hbx.mono Bb.out.size)); clear hbx; (have xc1 : wxc.cell? ⟨b, off + k * 4 + 3, none⟩ = some (.string S) := by rw [Bc.out.cell (p := ⟨b, off + k * 4 + 3, none⟩) hbl]; exact E3.out)))
            go_wp2
            go_roundw
            case rel =>
              refine ⟨k + 1, _, _, _, by omega, by go_num, Tc.out, ?_, Bc.out⟩
              rw [List.length_append, List.length_append, leb_len _ 2 (by decide), nums_length]; have := HL.out; omega
            case measure => simp [intOf]; omega
          · have hSz : 1024 < S.size := by omega
            go_wp2_with fail
            go_region_held3 (fun w' => w'.cell? ⟨b, off + k * 4 + 3, none⟩ = some (.string S))
              (first | go_keep | exact xc1 | exact xb1 | exact xa1)
              (first
                | (go_at_call 14; refine (text_bad _ _ _ S _ hSz Tz.out.1).mono ?_; rintro e wxa ⟨v, rfl, hcx, hbx⟩; have Ta := Lib.hid (Tz.out.below hbx); have Ba := Lib.hid (Bz.out.trans (hbx.mono Bz.out.size)); have Ca := Lib.hid hcx; clear hbx hcx; (have xa1 : wxa.cell? ⟨b, off + k * 4 + 3, none⟩ = some (.string S) := by rw [Ba.out.cell (p := ⟨b, off + k * 4 + 3, none⟩) hbl]; exact E3.out))
                | (go_at_call 15; refine (reftext_bad _ _ _ S _ hSz Ta.out.swap.1).mono ?_; rintro e wxb ⟨Ab, atb, rfl, hRx, hbx⟩; have Tb := Lib.hid (Ta.out.below hbx); have Bb := Lib.hid (Ba.out.trans (hbx.mono Ba.out.size)); have Cb := Lib.hid (Ca.out.below hbx); have Rb := Lib.hid hRx; clear hbx hRx; (have xb1 : wxb.cell? ⟨b, off + k * 4 + 3, none⟩ = some (.string S) := by rw [Bb.out.cell (p := ⟨b, off + k * 4 + 3, none⟩) hbl]; exact E3.out))
                | (go_at_call 11; refine (alike_yes v Ab 1 1 atb [11] _ (HG.out.below Bb.out) Cb.out Rb.out (by decide)).mono ?_; rintro e wxc ⟨rfl, hbx⟩; have Tc := Lib.hid (Tb.out.below hbx); have Bc := Lib.hid (Bb.out.trans (hbx.mono Bb.out.size)); clear hbx; (have xc1 : wxc.cell? ⟨b, off + k * 4 + 3, none⟩ = some (.string S) := by rw [Bc.out.cell (p := ⟨b, off + k * 4 + 3, none⟩) hbl]; exact E3.out)))
            go_wp2
            go_roundw
            case rel =>
              refine ⟨k + 1, _, _, _, by omega, by go_num, Tc.out, ?_, Bc.out⟩
              have := HL.out; omega
            case measure => simp [intOf]; omega
        · have z0 : (q == 0) = false := by simpa using q0
          have z1 : (q == 1) = false := by simpa using q1
          go_wp2
          go_roundw
          case rel => exact ⟨k + 1, r1, r2, bs, by omega, by go_num, Tr.out, by have := HL.out; omega, Br.out⟩
          case measure => simp [intOf]; omega
    · have hd : decide ((k : Int) < (n : Int)) = false := by simp only [decide_eq_false_iff_not]; omega
      go_wp2_with fail
      go_at_call 16
      refine (bytes_any _ _ _ _ Tr.out.1).mono ?_
      rintro e wx ⟨rfl, rfl⟩
      go_wp2_with fail
      go_at_call 17
      refine (refbytes _ _ _ _ Tr.out.swap.1).mono ?_
      rintro e wx ⟨rfl, rfl⟩
      go_wp2_with fail
      go_at_call 12
      refine (num_bad _ _ _ 1 3 _ (not_fits3 1) (by decide) Tr.out.1).mono ?_
      rintro e w5 ⟨v, rfl, hch, hb5⟩
      have B5 := Lib.hid (Br.out.trans (hb5.mono Br.out.size))
      have HC := Lib.hid hch
      clear hb5 hch
      go_wp2_with fail
      go_at_call 18
      refine (code_any v [1] _ (HG.out.below B5.out) HC.out (by decide)).mono ?_
      rintro e w6 ⟨rfl, hb6⟩
      have B6 := Lib.hid (B5.out.trans (hb6.mono B5.out.size))
      clear hb6
      go_wp2
      go_ret
      exact ⟨rfl, B6.out⟩
end Go.Proofs.YtionhkcbobddjaaDoor
