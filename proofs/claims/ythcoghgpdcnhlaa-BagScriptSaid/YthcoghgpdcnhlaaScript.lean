/-
  BagScript, walked.
-/
import Derived.Test.YthcoghgpdcnhlaaStart
namespace Go.Proofs.Ythcoghgpdcnhlaa
open Go.RowKit

set_option maxRecDepth 100000 in
set_option maxHeartbeats 4000000 in
theorem script_any (A : Option Addr) (n c : Nat) (st : Nat → Stp) (i : Int) (w : World) (hn : n ≤ 9223372036854775807) (hss : ∀ i, i < n → (st i).m.data.size ≤ 9223372036854775807) (hS : Steps w A n st) :
    Calls Try.prog 3 #[.slice A n c, .int .i64 i] w fun e w' => e = .returned (.bool true) ∧ Below w.heap.size w w' := by
  have HS := Lib.hid hS
  have HH := Lib.hid (heavy_any A n c st w hn hss hS)
  clear hS hss
  go_enter Try.func3, Try.ntmps3
  go_wp2_with fail
  go_at_call 9
  refine HH.out.mono ?_
  rintro e w' ⟨h, rfl, hh, rfl⟩
  cases h with
  | true =>
    clear hh
    go_wp2
    go_ret
    exact ⟨rfl, Below.refl _ _⟩
  | false =>
  have hn8 := hh rfl
  clear hh HH
  go_wp2_with fail
  go_at_call 10
  refine (new_any _).mono ?_
  rintro e w1 ⟨rfl, hB1, hb1, hz1⟩
  have T1 := Lib.hid (Two.start (t := 29) hB1)
  have hbR : Below w1.heap.size w1 (w1.alloc (.cells #[.slice none 0 0] 29)) := (Below.refl _ _).alloc (Nat.le_refl _) _
  have B1' := Lib.hid (hb1.trans (hbR.mono hb1.size))
  have hz0 : w.heap.size ≤ w.heap.size := Nat.le_refl _
  clear hB1 hb1 hbR
  obtain ⟨b1, hb1⟩ : ∃ b1, w.heap.size = b1 := ⟨_, rfl⟩
  have HBB := Lib.hid hb1
  rw [hb1] at T1 hz1 ⊢
  clear hb1 hz0
  go_wp2_with fail
  generalize w1.alloc (.cells #[.slice none 0 0] 29) = w2 at T1 B1' ⊢
  generalize w1.heap.size = b2 at hz1 T1 ⊢
  go_at_call 11
  refine (take_no _ _ [] 0 _ T1.out.1 (has_nil 0)).mono ?_
  rintro e w3 ⟨rfl, r3, k1, k2, k3⟩
  have hbz : Below w3.heap.size w3 (w3.alloc (.cells M.zero.cells 31)) := (Below.refl _ _).alloc (Nat.le_refl _) _
  have T3 := Lib.hid ((T1.out.step k1 k2 k3).below hbz)
  have hB3 := k3.belowB T1.out.1 (Nat.le_refl _)
  have B3 := Lib.hid ((B1'.out.trans (HBB.out ▸ hB3)).trans (hbz.mono (Nat.le_trans B1'.out.size k3.size)))
  clear k1 k2 k3 hbz hB3 T1 B1'
  go_wp2
  generalize w3.alloc (.cells M.zero.cells 31) = w4 at T3 B3 ⊢
  go_loopw [9] (fun iv wr => ∃ (k : Nat) (r1 r2 : Option Nat) (l : List M), k ≤ n ∧ iv = .int .i64 k ∧ Two wr b1 r1 l b2 r2 l ∧ Fit l ∧ Below w.heap.size w wr) (fun iv _ => n - (intOf iv).toNat)
  case atStart => exact ⟨0, r3, none, [], Nat.zero_le _, rfl, T3.out, Fit.nil, B3.out⟩
  case round =>
    obtain ⟨k, r1, r2, l, hk, rfl, hT, hF, hB⟩ := hrel
    have T4 := Lib.hid hT
    have F4 := Lib.hid hF
    have B4 := Lib.hid hB
    have hl := hF.le
    clear hT hF hB
    by_cases hlt : k < n
    · have hlI : (k : Int) < (n : Int) := by omega
      have hkI : (0 : Int) ≤ (k : Int) := by omega
      obtain ⟨b, off, rfl, hat⟩ := HS.out k hlt
      have hbl := hat.lt
      have hbd : Below wr.heap.size wr wr.drew := (Below.refl _ _).drew
      have Tz := Lib.hid (T4.out.below hbd)
      have Bz := Lib.hid (B4.out.trans (hbd.mono B4.out.size))
      obtain ⟨c0, c1, c2, c3, c4, c5, c6, c7, c8, c9⟩ := hat.kept (w' := wr.drew) (fun o => Bz.out.cell (p := ⟨b, o, none⟩) hbl)
      have HD := Lib.hid (does_any b1 b2 r1 r2 l (st k) wr.drew Tz.out F4.out)
      have FN := Lib.hid (F4.out.next (st k))
      generalize nextL l (st k) = kl at HD FN
      generalize st k = o at HD c0 c1 c2 c3 c4 c5 c6 c7 c8 c9
      have hkl := FN.out.le
      clear hat hbd
      go_wp2_with fail
      go_region_with (first
        | (go_at_call 12; refine HD.out.mono ?_; rintro e wb ⟨rfl, rb, rb', k1, k2, -, -⟩; have Tb := Lib.hid k1; have Bb := Lib.hid (Bz.out.trans (k2.below Tz.out (Nat.le_of_eq HBB.out) (by have := HBB.out; omega))); (obtain ⟨sb, hsb, -, hob, -⟩ := k1.swap.1); have Ob := Lib.hid hob; clear k1 k2 hob)
        | (go_at_call 14; refine (list_any _ _ kl _ Tb.out.1 (by omega)).mono ?_; rintro e wc ⟨v, rfl, k1, k2⟩; have Tc := Lib.hid (Tb.out.below k2); have Bc := Lib.hid (Bb.out.trans (k2.mono Bb.out.size)); (have hsc := (k2.cell (p := ⟨b2, 0, none⟩) Tb.out.swap.1.lt).trans hsb); have Oc := Lib.hid (Ob.out.below k2); have Vc := Lib.hid k1; clear k1 k2)
        | (go_at_call 13; refine (same_yes _ _ _ _ kl _ Vc.out Oc.out (by omega)).mono ?_; rintro e wd ⟨rfl, k2⟩; have Td := Lib.hid (Tc.out.below k2); have Bd := Lib.hid (Bc.out.trans (k2.mono Bc.out.size)); clear k2)
        | fail)
      all_goals
        go_wp2
        go_roundw
        case rel => exact ⟨k + 1, _, _, kl, by omega, by go_num, Td.out, FN.out, Bd.out⟩
        case measure => simp [intOf]; omega
    · have hlI : ¬ ((k : Int) < (n : Int)) := by omega
      go_wp2_with fail
      go_at_call 16
      refine (for_any _ _ l i _ T4.out.1 (by omega)).mono ?_
      rintro e wa ⟨va, rfl, k1, k2⟩
      have Va := Lib.hid k1
      have Ta := Lib.hid (T4.out.below k2)
      have Ba := Lib.hid (B4.out.trans (k2.mono B4.out.size))
      clear k1 k2
      go_wp2_with fail
      go_at_call 17
      refine (rfor_any _ _ l i _ Ta.out.swap.1 (by omega)).mono ?_
      rintro e wb ⟨vb, rfl, k1, k2⟩
      have Vb := Lib.hid k1
      have Vb' := Lib.hid (Va.out.below k2)
      have Bb := Lib.hid (Ba.out.trans (k2.mono Ba.out.size))
      have hpl := plc_le i l l.length
      clear k1 k2
      go_wp2_with fail
      go_at_call 15
      refine (ints_yes _ _ _ _ _ _ Vb'.out Vb.out (by omega)).mono ?_
      rintro e wd ⟨rfl, k2⟩
      have Bd := Lib.hid (Bb.out.trans (k2.mono Bb.out.size))
      clear k2
      go_wp2
      go_ret
      exact ⟨rfl, Bd.out⟩
end Go.Proofs.Ythcoghgpdcnhlaa
