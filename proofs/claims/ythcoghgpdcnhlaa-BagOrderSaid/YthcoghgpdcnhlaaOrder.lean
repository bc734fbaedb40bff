/-
  BagOrder, walked.
-/
import Derived.Test.YthcoghgpdcnhlaaOrd
namespace Go.Proofs.Ythcoghgpdcnhlaa
open Go.RowKit

set_option maxRecDepth 100000 in
set_option maxHeartbeats 4000000 in
theorem order_any (A : Option Addr) (n c : Nat) (st : Nat → Stp) (o : Stp) (w : World) (hn : n ≤ 9223372036854775807) (hss : ∀ i, i < n → (st i).m.data.size ≤ 9223372036854775807) (hso : o.m.data.size ≤ 9223372036854775807) (hS : Steps w A n st) :
    Calls Try.prog 5 #[.slice A n c, o.val] w fun e w' => e = .returned (.bool true) ∧ Below w.heap.size w w' := by
  have hb0 : Below w.heap.size w (w.alloc (.cells o.cells 37)) := (Below.refl _ _).alloc (Nat.le_refl _) _
  have hz0 : (w.alloc (.cells o.cells 37)).heap.size = w.heap.size + 1 := by simp
  have hb1 : Below (w.heap.size + 1) (w.alloc (.cells o.cells 37)) ((w.alloc (.cells o.cells 37)).alloc (.cells o.cells 37)) := (Below.refl _ _).alloc (by omega) _
  have B0 := Lib.hid (hb0.trans (hb1.mono (by omega)))
  have S0 := Lib.hid ((SB.fresh w o).below (hz0 ▸ hb1))
  have S1 := Lib.hid (show SB ((w.alloc (.cells o.cells 37)).alloc (.cells o.cells 37)) (w.heap.size + 1) o from hz0 ▸ SB.fresh (w.alloc (.cells o.cells 37)) o)
  have hz1 : ((w.alloc (.cells o.cells 37)).alloc (.cells o.cells 37)).heap.size = w.heap.size + 2 := by simp
  have hS1 : Steps ((w.alloc (.cells o.cells 37)).alloc (.cells o.cells 37)) A n st := fun i hi => by
    obtain ⟨b, off, hA, hat⟩ := hS i hi
    have hl := hat.lt
    exact ⟨b, off, hA, hat.kept (fun o => B0.out.cell (p := ⟨b, o, none⟩) hl)⟩
  have hS2 : Steps ((w.alloc (.cells o.cells 37)).alloc (.cells o.cells 37)) (some ⟨w.heap.size + 1, 0, none⟩) 1 (fun _ => o) := fun i hi => by
    obtain rfl : i = 0 := by omega
    obtain ⟨h0, h1, h2, h3, h4, h5, h6, h7, h8, h9⟩ := S1.out.all
    exact ⟨_, 0, rfl, h0, h1, h2, h3, h4, h5, h6, h7, h8, h9⟩
  have HS := Lib.hid hS
  have HH := Lib.hid (heavy_any A n c st _ hn hss hS1)
  have HH2 := Lib.hid (heavy_any (some ⟨w.heap.size + 1, 0, none⟩) 1 1 (fun _ => o) _ (by omega) (fun _ _ => hso) hS2)
  clear hS hss hS1 hS2 hso hb0 hb1 hz0 S1
  go_enter Try.func5, Try.ntmps5
  go_wp2_with fail
  go_at_call 9
  refine HH.out.mono ?_
  rintro e w' ⟨h, rfl, hh, rfl⟩
  generalize (w.alloc (.cells o.cells 37)).alloc (.cells o.cells 37) = w0 at HH HH2 B0 S0 hz1 ⊢
  cases h with
  | true =>
    clear hh
    go_wp2
    go_ret
    exact ⟨rfl, B0.out⟩
  | false =>
  have hn8 := hh rfl
  clear hh HH
  go_wp2_with fail
  go_at_call 9
  refine HH2.out.mono ?_
  rintro e w' ⟨h, rfl, hh, rfl⟩
  clear hh HH2
  cases h with
  | true =>
    go_wp2
    go_ret
    exact ⟨rfl, B0.out⟩
  | false =>
  go_wp2_with fail
  go_at_call 10
  refine (new_any _).mono ?_
  rintro e w1 ⟨rfl, hB1, hb1, hzz⟩
  have T1 := Lib.hid (Two.start (t := 29) hB1)
  have hbR : Below w1.heap.size w1 (w1.alloc (.cells #[.slice none 0 0] 29)) := (Below.refl _ _).alloc (Nat.le_refl _) _
  have hbX := hb1.trans (hbR.mono hb1.size)
  have B1 := Lib.hid (B0.out.trans (hbX.mono B0.out.size))
  have S1 := Lib.hid (S0.out.below hbX)
  clear hB1 hb1 hbR hbX
  rw [hz1] at T1 hzz ⊢
  clear hz1 B0 S0
  go_wp2_with fail
  generalize w1.alloc (.cells #[.slice none 0 0] 29) = w2 at T1 B1 S1 ⊢
  generalize w1.heap.size = b2 at hzz T1 ⊢
  go_loopw [8] (fun iv wr => ∃ (k : Nat) (r1 r2 : Option Nat) (l : List M), k ≤ n ∧ iv = .int .i64 k ∧ Two wr (w.heap.size + 2) r1 l b2 r2 l ∧ Fit l ∧ SB wr w.heap.size o ∧ Below w.heap.size w wr) (fun iv _ => n - (intOf iv).toNat)
  case atStart => exact ⟨0, none, none, [], Nat.zero_le _, rfl, T1.out, Fit.nil, S1.out, B1.out⟩
  case round =>
    obtain ⟨k, r1, r2, l, hk, rfl, hT, hF, hSB, hB⟩ := hrel
    have T4 := Lib.hid hT
    have F4 := Lib.hid hF
    have S4 := Lib.hid hSB
    have B4 := Lib.hid hB
    have hl := hF.le
    clear hT hF hB hSB
    by_cases hlt : k < n
    · have hlI : (k : Int) < (n : Int) := by omega
      have hkI : (0 : Int) ≤ (k : Int) := by omega
      obtain ⟨b, off, rfl, hat⟩ := HS.out k hlt
      have hbl := hat.lt
      obtain ⟨c0, c1, c2, c3, c4, c5, c6, c7, c8, c9⟩ := hat.kept (w' := wr) (fun o => B4.out.cell (p := ⟨b, o, none⟩) hbl)
      have HD := Lib.hid (does_any (w.heap.size + 2) b2 r1 r2 l (st k) wr T4.out F4.out)
      have FN := Lib.hid (F4.out.next (st k))
      generalize nextL l (st k) = kl at HD FN
      generalize st k = x at HD c0 c1 c2 c3 c4 c5 c6 c7 c8 c9
      clear hat
      go_wp2_with fail
      go_at_call 12
      refine HD.out.mono ?_
      rintro e wb ⟨rfl, rb, rb', k1, k2, -, -⟩
      have Tb := Lib.hid k1
      have Bb := Lib.hid (B4.out.trans (k2.below T4.out (by omega) (by omega)))
      have Sb := Lib.hid (S4.out.fr2 k2 (by omega) (fun e => by have := (T4.out.1.row_lt e.symm).1; omega) (by omega) (fun e => by have := (T4.out.2.1.row_lt e.symm).1; omega))
      clear k1 k2 c0 c1 c2 c3 c4 c5 c6 c7 c8 c9
      go_wp2
      go_roundw
      case rel => exact ⟨k + 1, _, _, kl, by omega, by go_num, Tb.out, FN.out, Sb.out, Bb.out⟩
      case measure => simp [intOf]; omega
    · have hlI : ¬ ((k : Int) < (n : Int)) := by omega
      go_wp2_with fail
      go_at_call 14
      refine (list_any _ _ l _ T4.out.1 (by omega)).mono ?_
      rintro e wa ⟨va, rfl, k1, k2⟩
      have Va := Lib.hid k1
      have Ta := Lib.hid (T4.out.below k2)
      have Sa := Lib.hid (S4.out.below k2)
      have Ba := Lib.hid (B4.out.trans (k2.mono B4.out.size))
      have HX := Lib.hid (And.intro (fun g (hg : r1 = some g) => (T4.out.1.row_lt hg).2) (And.intro (fun g (hg : r2 = some g) => (T4.out.2.1.row_lt hg).2) (And.intro T4.out.1.lt T4.out.2.1.lt)))
      obtain ⟨c0, c1, c2, c3, c4, c5, c6, c7, c8, c9⟩ := Sa.out.all
      clear k1 k2
      have HD := Lib.hid (does_any (w.heap.size + 2) b2 r1 r2 l o wa Ta.out F4.out)
      have FN := Lib.hid (F4.out.next o)
      have US := Lib.hid (next_sub l o)
      generalize nextL l o = kl at HD FN US
      have hkl := FN.out.le
      go_wp2_with fail
      go_at_call 12
      refine HD.out.mono ?_
      rintro e wb ⟨rfl, rb, rb', k1, k2, -, -⟩
      have Tb := Lib.hid k1
      have Bb := Lib.hid (Ba.out.trans (k2.below Ta.out (by omega) (by omega)))
      have Vb := Lib.hid (Va.out.fr2 k2 (fun g hg => by
        have h1 := (Va.out.lt hg).1
        have h2 := HX.out
        exact ⟨by omega, fun e => by have := h2.1 _ e.symm; omega, by omega, fun e => by have := h2.2.1 _ e.symm; omega⟩))
      clear k1 k2 c0 c1 c2 c3 c4 c5 c6 c7 c8 c9 HX
      go_wp2_with fail
      go_at_call 14
      refine (list_any _ _ kl _ Tb.out.1 (by omega)).mono ?_
      rintro e wc ⟨vc, rfl, k1, k2⟩
      have Vc := Lib.hid k1
      have Uc := Lib.hid (Vb.out.below k2)
      have Bc := Lib.hid (Bb.out.trans (k2.mono Bb.out.size))
      clear k1 k2
      obtain ⟨An, cn, rfl, han⟩ := Vc.out.look
      obtain ⟨Aw, cw, rfl, haw⟩ := Uc.out.look
      have HN := Lib.hid han
      have HW := Lib.hid haw
      clear han haw Va Ta Ba Tb Bb Vb Vc Uc HD
      go_wp2
      go_loopw [11, 12] (fun kv iv wx => ∃ (k i : Nat), kv = .int .i64 k ∧ iv = .int .i64 i ∧ k ≤ l.length ∧ i ≤ kl.length ∧ Sub kl l i k ∧ Below wc.heap.size wc wx) (fun _ iv _ => kl.length - (intOf iv).toNat)
      case atStart => exact ⟨0, 0, rfl, rfl, Nat.zero_le _, Nat.zero_le _, by simpa [Sub] using US.out, Below.refl _ _⟩
      case round =>
        obtain ⟨k, i, rfl, rfl, hk1, hi1, hsub, hbw⟩ := hrel
        have SU := Lib.hid hsub
        have BW := Lib.hid hbw
        clear hsub hbw
        by_cases hil : i < kl.length
        · have hiI : (i : Int) < (kl.length : Int) := by omega
          have hi0 : (0 : Int) ≤ (i : Int) := by omega
          obtain ⟨y, hy⟩ : ∃ y, kl[i]? = some y := ⟨_, List.getElem?_eq_getElem hil⟩
          obtain ⟨gn, rfl, hgn, hany⟩ := HN.out i y hy
          have HY := Lib.hid hy
          have HAY := Lib.hid hany
          clear hy hany
          go_wp2
          go_loopw [11] (fun kv wx => ∃ k : Nat, kv = .int .i64 k ∧ k ≤ l.length ∧ Sub kl l i k ∧ Below wc.heap.size wc wx) (fun kv _ => l.length - (intOf kv).toNat)
          case atStart => exact ⟨k, rfl, hk1, SU.out, BW.out⟩
          case round =>
            obtain ⟨k', rfl, hk2, hsub, hbw⟩ := hrel
            have SV := Lib.hid hsub
            have BV := Lib.hid hbw
            have hk0 : (0 : Int) ≤ (k' : Int) := by omega
            have hz := hbw.size
            obtain ⟨d0, d1, d2, d3, d4, d5, d6, d7⟩ := HAY.out.kept (fun o => hbw.cell (p := ⟨gn, o, none⟩) hgn)
            by_cases hkl2 : k' < l.length
            · have hkI : (k' : Int) < (l.length : Int) := by omega
              have hd : decide ((k' : Int) < (l.length : Int)) = true := by simp only [decide_eq_true_eq]; omega
              have hne0 : ((k' : Int) == (l.length : Int)) = false := by simp; omega
              obtain ⟨x, hx⟩ : ∃ x, l[k']? = some x := ⟨_, List.getElem?_eq_getElem hkl2⟩
              obtain ⟨gw, rfl, hgw, hawx⟩ := HW.out k' x hx
              obtain ⟨e0, e1, e2, e3, e4, e5, e6, e7⟩ := hawx.kept (fun o => hbw.cell (p := ⟨gw, o, none⟩) hgw)
              clear hsub hbw hawx
              by_cases hxy : x = y
              · subst hxy
                have hq := msg_sameN x
                have SN := Lib.hid (SV.out.hit hx HY.out)
                clear hx
                go_wp2
                go_quiet (fail)
                go_wp2
                go_roundw
                case rel => exact ⟨k' + 1, i + 1, by go_num, by go_num, by omega, by omega, SN.out, below_drewN BV.out _⟩
                case measure => simp [intOf]; omega
              · have hq := fun W => msg_otherN x y W hxy
                have SN := Lib.hid (SV.out.skip hx HY.out hxy)
                clear hx
                go_wp2
                go_quiet (fail)
                go_wp2
                go_roundw
                case rel => exact ⟨k' + 1, by go_num, by omega, SN.out, below_drewN BV.out _⟩
                case measure => simp [intOf]; omega
            · have hd : decide ((k' : Int) < (l.length : Int)) = false := by simp only [decide_eq_false_iff_not]; omega
              have hil2 : kl.length ≤ i + 1 := by
                rcases Nat.lt_or_ge (i + 1) kl.length with h | h
                · exact absurd (hsub.more h) hkl2
                · exact h
              have hkE : (k' : Int) = (l.length : Int) := by omega
              have hkE2 : ((k' : Int) == (l.length : Int)) = true := by simp; omega
              have hnI : ¬ ((i : Int) < (kl.length : Int) - 1) := by omega
              have hkN : ¬ ((k' : Int) < (l.length : Int)) := by omega
              clear hsub hbw hkE
              go_wp2
              go_quiet (fail)
              go_wp2
              go_roundw
              case rel => exact ⟨k', i + 1, by go_num, by go_num, by omega, by omega, Sub.last (by omega), below_drewN BV.out _⟩
              case measure => simp [intOf]; omega
        · have hiI : ¬ ((i : Int) < (kl.length : Int)) := by omega
          have hk64 : (kl.length : Int) ≤ 64 := by omega
          go_wp2_with fail
          go_at_call 10
          refine (new_any _).mono ?_
          rintro e wn ⟨rfl, hBn, hbn, hzn⟩
          go_wp2_with fail
          go_at_call 11
          refine (take_new _ _ _ hBn).mono ?_
          rintro e wt ⟨rfl, hft⟩
          have hb2 := BW.out.trans ((Fr.new_below hbn hft (Nat.le_refl _) rfl).mono BW.out.size)
          have hb3 : Below wc.heap.size wc (wt.alloc (.cells M.zero.cells 31)) := hb2.alloc hb2.size _
          have BE := Lib.hid (Bc.out.trans (hb3.mono Bc.out.size))
          clear hBn hbn hzn hft hb2 hb3
          go_wp2
          go_ret
          exact ⟨rfl, BE.out⟩
end Go.Proofs.Ythcoghgpdcnhlaa
