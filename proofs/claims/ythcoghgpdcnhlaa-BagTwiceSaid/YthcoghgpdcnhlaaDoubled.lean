/-
  BagTwice, walked.
-/
import Derived.Test.YthcoghgpdcnhlaaOpenL
import Derived.Test.YthcoghgpdcnhlaaStart
namespace Go.Proofs.Ythcoghgpdcnhlaa
open Go.RowKit

theorem send_ok {l : List M} {m : M} (hl : l.length < 64) : (sendE l m = 0 ∧ sendL l m = l ++ [m]) ∨ ((sendE l m == 0) = false ∧ sendL l m = l) := by
  by_cases hc : m.chk = 0
  · left
    rw [sendE, sendL, if_pos hc, if_pos hc, roomE, roomL, if_neg (by omega), if_neg (by omega)]
    exact ⟨rfl, rfl⟩
  · right
    rw [sendE, sendL, if_neg hc, if_neg hc]
    exact ⟨by simpa using hc, rfl⟩
theorem late_first (x : M) (t : List M) : ltL (x :: t) 0 = t ++ [x] ∧ tkE (x :: t) 0 = 0 := by
  have h : has (x :: t) 0 := by unfold has; simp
  exact ⟨by rw [ltL, if_pos h]; simp [rest, atP], if_pos h⟩
theorem rest_last (x : M) (t : List M) : rest (t ++ [x]) t.length = t := by simp [rest]
theorem cnt_app (m : M) (l k : List M) : cnt m (l ++ k) = cnt m l + cnt m k := List.countP_append
theorem cnt_one (m x : M) : cnt m [x] = if x.eqb m = true then 1 else 0 := by simp [cnt, List.countP_cons]
theorem cnt_self (m : M) : cnt m [m] = 1 := by rw [cnt_one, if_pos (M.eqb_self m)]
theorem cnt_cons (m x : M) (t : List M) : cnt m (x :: t) = cnt m [x] + cnt m t := cnt_app m [x] t
/-- What lies there while BagTwice counts. -/
structure QT (w : World) (b : Nat) (row : Option Nat) (L : List M) (Ba : Nat) (va : Value) (l : List M) (cm cx : Nat) (m x : M) (W : World) : Prop where
  bg : Bg W b row L
  oa : Owns W Ba va l
  mm : Mat W cm m
  xx : Mat W cx x
  bel : Below w.heap.size w W
theorem QT.below {w W W' : World} {b : Nat} {row : Option Nat} {L : List M} {Ba : Nat} {va : Value} {l : List M} {cm cx : Nat} {m x : M} (h : QT w b row L Ba va l cm cx m x W) (hb : Below W.heap.size W W') : QT w b row L Ba va l cm cx m x W' :=
  ⟨h.bg.below hb, h.oa.below hb, h.mm.below hb, h.xx.below hb, h.bel.trans (hb.mono h.bel.size)⟩
theorem belowA (W : World) (x : M) : Below W.heap.size W (W.alloc (.cells x.cells 31)) := (Below.refl _ _).alloc (Nat.le_refl _) _
theorem Owns.one (W : World) (x : M) : Owns (W.alloc (.cells x.cells 31)) W.heap.size (.slice (some ⟨W.heap.size, 0, none⟩) 1 1) [x] := by
  have := World.ownsRow_lit (base := W.heap.size) (e := 31) (size := 8) W x.cells 1 (Nat.le_refl _) (by simp [maxLen]) (by simp)
  unfold Owns
  rw [flat_one]
  exact this

set_option maxRecDepth 100000 in
set_option maxHeartbeats 4000000 in
theorem doubled_any (A : Option Addr) (n c : Nat) (ms : Nat → M) (q : Int) (w : World) (hn : n ≤ 9223372036854775807) (hss : ∀ i, i < n → (ms i).data.size ≤ 9223372036854775807) (hq0 : 0 ≤ q) (hq1 : q ≤ 255) (hS : Msgs w A n ms) :
    Calls Try.prog 8 #[.slice A n c, .int .u8 q] w fun e w' => e = .returned (.bool true) ∧ Below w.heap.size w w' := by
  have HS := Lib.hid hS
  have HSS := Lib.hid hss
  clear hS hss
  by_cases hout : n = 0 ∨ 30 < n
  · have HO := Lib.hid hout
    rcases hout with h0 | h30
    · subst h0
      clear HS HSS HO
      go_enter Try.func8, Try.ntmps8
      go_wp2_with fail
      go_at_call 10
      refine (new_any _).mono ?_
      rintro e wn ⟨rfl, hBn, hbn, hzn⟩
      go_wp2_with fail
      go_at_call 11
      refine (take_new _ _ _ hBn).mono ?_
      rintro e wt ⟨rfl, hft⟩
      have hb2 := Fr.new_below hbn hft (Nat.le_refl _) rfl
      have BE := Lib.hid (show Below w.heap.size w (wt.alloc (.cells M.zero.cells 31)) from hb2.alloc hb2.size _)
      clear hBn hbn hzn hft hb2
      go_wp2
      go_ret
      exact ⟨rfl, BE.out⟩
    · have h1 : ((n : Int) == 0) = false := by simp; omega
      have h2 : (30 : Int) < (n : Int) := by omega
      clear HS HSS HO
      go_enter Try.func8, Try.ntmps8
      go_wp2_with fail
      go_at_call 10
      refine (new_any _).mono ?_
      rintro e wn ⟨rfl, hBn, hbn, hzn⟩
      go_wp2_with fail
      go_at_call 11
      refine (take_new _ _ _ hBn).mono ?_
      rintro e wt ⟨rfl, hft⟩
      have hb2 := Fr.new_below hbn hft (Nat.le_refl _) rfl
      have BE := Lib.hid (show Below w.heap.size w (wt.alloc (.cells M.zero.cells 31)) from hb2.alloc hb2.size _)
      clear hBn hbn hzn hft hb2
      go_wp2
      go_ret
      exact ⟨rfl, BE.out⟩
  have h1 : ((n : Int) == 0) = false := by simp; omega
  have h2 : ¬ ((30 : Int) < (n : Int)) := by omega
  have hn30 : n ≤ 30 := by omega
  clear hout
  go_enter Try.func8, Try.ntmps8
  go_wp2_with fail
  go_at_call 10
  refine (new_any _).mono ?_
  rintro e w1 ⟨rfl, hB1, hb1, hz1⟩
  have T1 := Lib.hid hB1
  have B1 := Lib.hid hb1
  clear hB1 hb1
  go_wp2
  go_loopw [8, 9] (fun nv iv wr => ∃ (k : Nat) (r : Option Nat) (l : List M), k ≤ n ∧ iv = .int .i64 k ∧ nv = .int .i64 (l.length : Int) ∧ l.length ≤ k ∧ Bg wr w.heap.size r l ∧ Below w.heap.size w wr) (fun _ iv _ => n - (intOf iv).toNat)
  case atStart => exact ⟨0, none, [], Nat.zero_le _, rfl, rfl, Nat.zero_le _, T1.out, B1.out⟩
  case round =>
    obtain ⟨k, r, l, hk, rfl, rfl, hlk, hT, hB⟩ := hrel
    have T4 := Lib.hid hT
    have B4 := Lib.hid hB
    clear hT hB
    by_cases hlt : k < n
    · have hlI : (k : Int) < (n : Int) := by omega
      have hkI : (0 : Int) ≤ (k : Int) := by omega
      obtain ⟨b, off, rfl, hat⟩ := HS.out k hlt
      have hbl : b < w.heap.size := cell_lt3 hat.c0
      obtain ⟨c0, c1, c2, c3, c4, c5, c6, c7⟩ := hat.kept (w' := wr) (fun o => B4.out.cell (p := ⟨b, o, none⟩) hbl)
      have HD := Lib.hid (send_any w.heap.size r l (ms k) wr T4.out (by omega))
      have hsz := HSS.out k hlt
      have HSO := Lib.hid (send_ok (l := l) (m := ms k) (by omega))
      generalize ms k = m at HD HSO c0 c1 c2 c3 c4 c5 c6 c7 hsz
      clear hat
      by_cases hbig : 1024 < m.data.size
      · have hbI : (1024 : Int) < (m.data.size : Int) := by omega
        go_wp2_with fail
        go_at_call 10
        refine (new_any _).mono ?_
        rintro e wn ⟨rfl, hBn, hbn, hzn⟩
        go_wp2_with fail
        go_at_call 11
        refine (take_new _ _ _ hBn).mono ?_
        rintro e wt ⟨rfl, hft⟩
        have hb2 := B4.out.trans ((Fr.new_below hbn hft (Nat.le_refl _) rfl).mono B4.out.size)
        have BE := Lib.hid (show Below w.heap.size w (wt.alloc (.cells M.zero.cells 31)) from hb2.alloc hb2.size _)
        clear hBn hbn hzn hft hb2
        go_wp2
        go_ret
        exact ⟨rfl, BE.out⟩
      · have hbI : ¬ ((1024 : Int) < (m.data.size : Int)) := by omega
        generalize sendE l m = x at HD HSO
        generalize sendL l m = kl at HD HSO
        rcases HSO.out with ⟨hx, hkl⟩ | ⟨hx, hkl⟩
        · subst hx
          have HK := Lib.hid hkl
          clear hkl HSO
          go_wp2_with fail
          go_at_call 18
          refine HD.out.mono ?_
          rintro e wb ⟨rfl, rb, k1, k2, k3⟩
          have Tb := Lib.hid k1
          have Bb := Lib.hid (B4.out.trans (k3.belowB T4.out (Nat.le_refl _)))
          clear k1 k2 k3 c0 c1 c2 c3 c4 c5 c6 c7
          go_wp2
          go_roundw
          case rel => exact ⟨k + 1, _, kl, by omega, by go_num, by rw [HK.out]; simp, by rw [HK.out]; simp; omega, Tb.out, Bb.out⟩
          case measure => simp [intOf]; omega
        · have HK := Lib.hid hkl
          clear hkl HSO
          go_wp2_with fail
          go_at_call 18
          refine HD.out.mono ?_
          rintro e wb ⟨rfl, rb, k1, k2, k3⟩
          have Tb := Lib.hid k1
          have Bb := Lib.hid (B4.out.trans (k3.belowB T4.out (Nat.le_refl _)))
          clear k1 k2 k3 c0 c1 c2 c3 c4 c5 c6 c7
          go_wp2
          go_roundw
          case rel => exact ⟨k + 1, _, kl, by omega, by go_num, by rw [HK.out], by rw [HK.out]; omega, Tb.out, Bb.out⟩
          case measure => simp [intOf]; omega
    · have hlI : ¬ ((k : Int) < (n : Int)) := by omega
      go_wp2_with fail
      go_at_call 10
      refine (new_any _).mono ?_
      rintro e wn ⟨rfl, hBn, hbn, hzn⟩
      go_wp2_with fail
      go_at_call 11
      refine (take_new _ _ _ hBn).mono ?_
      rintro e wt ⟨rfl, hft⟩
      have hb1 := Fr.new_below hbn hft (Nat.le_refl _) rfl
      have hb2 : Below wr.heap.size wr (wt.alloc (.cells M.zero.cells 31)) := hb1.alloc hb1.size _
      have T5 := Lib.hid (T4.out.below hb2)
      have B5 := Lib.hid (B4.out.trans (hb2.mono B4.out.size))
      clear hBn hbn hzn hft hb2 hb1
      generalize hN : l.length = N at hlk ⊢
      by_cases hN0 : N = 0
      · subst hN0
        clear hN
        go_wp2
        go_ret
        exact ⟨rfl, B5.out⟩
      obtain ⟨x, t, rfl⟩ : ∃ x t, l = x :: t := by
        cases l with
        | nil => exact absurd hN.symm hN0
        | cons x t => exact ⟨x, t, rfl⟩
      have HN := Lib.hid hN
      have hl0 : ((N : Int) == 0) = false := by simp; omega
      have hl1 : (N : Int) ≠ 0 := by omega
      have hl2 : ((N : Int) != (N : Int)) = false := by simp
      clear hN hN0
      go_wp2_with fail
      go_at_call 14
      generalize wt.alloc (.cells M.zero.cells 31) = w5 at T5 B5 ⊢
      refine (list_any _ _ (x :: t) _ T5.out (by have := HN.out; omega)).mono ?_
      rintro e w6 ⟨va, rfl, k1, k2⟩
      have T6 := Lib.hid (T5.out.below k2)
      have B6 := Lib.hid (B5.out.trans (k2.mono B5.out.size))
      have O6 := Lib.hid k1
      have PA := Lib.hid (show ∀ g, va.ownBlock = some g → g ≠ w.heap.size ∧ some g ≠ r from fun g hg => by
        have h1 := (k1.lt hg).1
        have h2 := T5.out.lt
        exact ⟨by omega, fun e => by have := (T5.out.row_lt e.symm).2; omega⟩)
      obtain ⟨Aa, ca, hva, haa⟩ := k1.look
      rw [HN.out] at hva
      subst hva
      clear k1 k2
      obtain ⟨K, hK⟩ : ∃ K : Nat, q.tmod (N : Int) = (K : Int) := ⟨(q.tmod (N : Int)).toNat, by rw [Int.tmod_eq_emod_of_nonneg hq0]; have := Int.emod_nonneg q hl1; omega⟩
      have hKN : K < N := by rw [Int.tmod_eq_emod_of_nonneg hq0] at hK; have := Int.emod_lt_of_pos q (show (0 : Int) < (N : Int) by omega); omega
      have hK2 : q % (N : Int) = (K : Int) := by rw [Int.tmod_eq_emod_of_nonneg hq0] at hK; exact hK
      have hKI : (K : Int) < (N : Int) := by omega
      have hK0 : (0 : Int) ≤ (K : Int) := by omega
      obtain ⟨m, hm⟩ : ∃ m, (x :: t)[K]? = some m := ⟨_, List.getElem?_eq_getElem (by have := HN.out; omega)⟩
      obtain ⟨ga, rfl, hga, hatm⟩ := haa K m hm
      have HAA := Lib.hid haa
      have HMM := Lib.hid hm
      obtain ⟨c0, c1, c2, c3, c4, c5, c6, c7⟩ := hatm
      clear haa hm
      have hbm : Below w6.heap.size w6 (w6.alloc (.cells m.cells 31)) := (Below.refl _ _).alloc (Nat.le_refl _) _
      have T7 := Lib.hid (T6.out.below hbm)
      have B7 := Lib.hid (B6.out.trans (hbm.mono B6.out.size))
      have O7 := Lib.hid (O6.out.below hbm)
      have M7 := Lib.hid (Mat.fresh w6 m 31)
      have hz7 : (w6.alloc (.cells m.cells 31)).heap.size = w6.heap.size + 1 := by simp
      have HTW := Lib.hid (fun W r (h : Bg W w.heap.size r (x :: t)) => twice_yes w.heap.size r (x :: t) K m W h HMM.out (by have := HN.out; omega))
      rw [show roomE (x :: t) = 0 from if_neg (by have := HN.out; omega), show roomL (x :: t) m = x :: (t ++ [m]) from if_neg (by have := HN.out; omega)] at HTW
      have h6 := T6.out.lt
      have q6 : ∀ g, r = some g → g < w6.heap.size := fun _ hg => (T6.out.row_lt hg).2
      clear hbm
      go_wp2_with fail
      go_at_call 19
      generalize w6.alloc (.cells m.cells 31) = w7 at T7 B7 O7 M7 hz7 ⊢
      refine (HTW.out _ _ T7.out).mono ?_
      rintro e w8 ⟨rfl, r8, k1, k2, k3⟩
      have T8 := Lib.hid k1
      have B8 := Lib.hid (B7.out.trans (k3.belowB T7.out (Nat.le_refl _)))
      have O8 := Lib.hid (O7.out.fr k3 PA.out)
      have M8 := Lib.hid (M7.out.fr k3 (by omega) (fun e => by have := q6 _ e.symm; omega))
      have P8 := Lib.hid (show ∀ g, (Value.slice (some ⟨ga, 0, none⟩) N ca).ownBlock = some g → g ≠ w.heap.size ∧ some g ≠ r8 from fun g hg => by
        refine ⟨(PA.out g hg).1, ?_⟩
        rcases k2 with h | h | ⟨g', h, hg'⟩
        · rw [h]; exact (PA.out g hg).2
        · rw [h]; simp
        · rw [h]; intro e; injection e with e; have := (O7.out.lt hg).2; omega)
      have N8 := Lib.hid (show some w6.heap.size ≠ r8 from fun e => by
        rcases k2 with h | h | ⟨g', h, hg'⟩
        · rw [h] at e; have := q6 _ e.symm; omega
        · rw [h] at e; simp at e
        · rw [h] at e; injection e with e; omega)
      clear k1 k2 k3 c0 c1 c2 c3 c4 c5 c6 c7 HTW
      have HLT := Lib.hid (late_any w.heap.size r8 (x :: (t ++ [m])) 0 _ T8.out (by have := HN.out; simp at this ⊢; omega))
      rw [(late_first x (t ++ [m])).1, (late_first x (t ++ [m])).2] at HLT
      go_wp2_with fail
      go_at_call 21
      refine HLT.out.mono ?_
      rintro e w9 ⟨rfl, r9, k1, k2, k3⟩
      have T9 := Lib.hid k1
      have B9 := Lib.hid (B8.out.trans (k3.belowB T8.out (Nat.le_refl _)))
      have O9 := Lib.hid (O8.out.fr k3 P8.out)
      have M9 := Lib.hid (M8.out.fr k3 (by omega) N8.out)
      have P9 := Lib.hid (show ∀ g, (Value.slice (some ⟨ga, 0, none⟩) N ca).ownBlock = some g → g ≠ w.heap.size ∧ some g ≠ r9 from fun g hg => by
        refine ⟨(PA.out g hg).1, ?_⟩
        rcases k2 with h | h | ⟨g', h, hg'⟩
        · rw [h]; exact (P8.out g hg).2
        · rw [h]; simp
        · rw [h]; intro e; injection e with e; have := (O8.out.lt hg).2; omega)
      have N9 := Lib.hid (show some w6.heap.size ≠ r9 from fun e => by
        rcases k2 with h | h | ⟨g', h, hg'⟩
        · rw [h] at e; exact N8.out e
        · rw [h] at e; simp at e
        · rw [h] at e; injection e with e; have := M8.out.lt; omega)
      clear k1 k2 k3 HLT
      have hNt : (t ++ [m]).length = N := by have := HN.out; simp at this ⊢; omega
      have HTK := Lib.hid (take_yes w.heap.size r9 ((t ++ [m]) ++ [x]) N (N : Int) x _ T9.out (by rw [← hNt]; simp) rfl (by rw [List.length_append, hNt]; simp; omega))
      rw [show rest ((t ++ [m]) ++ [x]) N = t ++ [m] by rw [← hNt]; exact rest_last x (t ++ [m])] at HTK
      have HNT := Lib.hid hNt
      clear hNt
      go_wp2_with fail
      go_at_call 11
      refine HTK.out.mono ?_
      rintro e wA ⟨rfl, rA, k1, k2, k3⟩
      have hbx : Below wA.heap.size wA (wA.alloc (.cells x.cells 31)) := (Below.refl _ _).alloc (Nat.le_refl _) _
      have QA := Lib.hid (show QT w w.heap.size rA (t ++ [m]) w5.heap.size (.slice (some ⟨ga, 0, none⟩) N ca) (x :: t) w6.heap.size wA.heap.size m x (wA.alloc (.cells x.cells 31)) from
        ⟨k1.below hbx, (O9.out.fr k3 P9.out).below hbx, (M9.out.fr k3 (by omega) N9.out).below hbx, Mat.fresh wA x 31, (B9.out.trans (k3.belowB T9.out (Nat.le_refl _))).trans (hbx.mono (Nat.le_trans B9.out.size k3.size))⟩)
      have HA0 := Lib.hid (show At (wA.alloc (.cells x.cells 31)) ga 0 x from by
        obtain ⟨A', c', hv, hat⟩ := QA.out.oa.look
        obtain ⟨g', hg', hgl, h⟩ := hat 0 x rfl
        simp only [Value.slice.injEq] at hv
        rw [← hv.1] at hg'
        injection hg' with hg'
        injection hg' with hg'
        subst hg'
        exact h)
      have hgA : ga < (wA.alloc (.cells x.cells 31)).heap.size := cell_lt3 HA0.out.c0
      have hzA : (wA.alloc (.cells x.cells 31)).heap.size = wA.heap.size + 1 := by simp
      clear k1 k2 k3 hbx HTK
      go_wp2_with fail
      generalize wA.alloc (.cells x.cells 31) = wB at QA HA0 hgA hzA ⊢
      obtain ⟨d0, d1, d2, d3, d4, d5, d6, d7⟩ := QA.out.xx.all
      obtain ⟨e0, e1, e2, e3, e4, e5, e6, e7⟩ := HA0.out
      have hq := msg_sameN x
      have hN1 : (0 : Int) < (N : Int) := by omega
      go_quiet (fail)
      go_wp2_with fail
      generalize hC : World.drewN wB _ = wC
      have QC := Lib.hid (show QT w w.heap.size rA (t ++ [m]) w5.heap.size (.slice (some ⟨ga, 0, none⟩) N ca) (x :: t) w6.heap.size wA.heap.size m x wC from hC ▸ QA.out.below (below_drewN (Below.refl _ _) _))
      clear hC d0 d1 d2 d3 d4 d5 d6 d7 e0 e1 e2 e3 e4 e5 e6 e7 hgA hzA HA0 QA
      have hL3 : (t ++ [m]).length ≤ 1000 := by have := HNT.out; omega
      have Qz := Lib.hid (QC.out.below ((Below.refl _ _).drew))
      have Qb := Lib.hid (QC.out.below (((Below.refl _ _).alloc (Nat.le_refl _) (.cells x.cells 31)).drew))
      have Zb := Lib.hid (show Owns (wC.alloc (.cells x.cells 31)).drew wC.heap.size (.slice (some ⟨wC.heap.size, 0, none⟩) 1 1) [x] from (Owns.one wC x).below ((Below.refl _ _).drew))
      have HC1 := Lib.hid (fun W B v (h : Owns W B v (t ++ [m])) => count_any B v (t ++ [m]) m W h (by have := HNT.out; omega))
      have HC2 := Lib.hid (fun W B v (h : Owns W B v (x :: t)) => count_any B v (x :: t) m W h (by have := HN.out; omega))
      have HC3 := Lib.hid (fun W B v (h : Owns W B v [x]) => count_any B v [x] m W h (by simp))
      have hn1 := cnt_le m (t ++ [m])
      have hn2 := cnt_le m (x :: t)
      have hn3 := cnt_le m [x]
      have hEQ : cnt m (t ++ [m]) + cnt m [x] = cnt m (x :: t) + 1 := by rw [cnt_app, cnt_self, cnt_cons m x t]; omega
      rw [HNT.out] at hn1
      rw [HN.out] at hn2
      rw [List.length_singleton] at hn3
      generalize cnt m (t ++ [m]) = n1 at HC1 hn1 hEQ
      generalize cnt m (x :: t) = n2 at HC2 hn2 hEQ
      generalize cnt m [x] = n3 at HC3 hn3 hEQ
      have HE2 := Lib.hid (show ((n1 : Int) == IntKind.i64.wrap (IntKind.i64.wrap ((n2 : Int) + 1) - (n3 : Int))) = true by rw [IntWalk.i64_in ((n2 : Int) + 1) (by omega), IntWalk.i64_in ((n2 : Int) + 1 - (n3 : Int)) (by omega)]; simp; omega)
      have l0 := QC.out.mm.lt
      have l0' := QC.out.xx.lt
      clear hEQ
      go_region_held3 (fun w' => (w'.cell? ⟨w6.heap.size, 0, none⟩ = some (.int .i64 m.kind) ∧ w'.cell? ⟨w6.heap.size, 1, none⟩ = some (.int .i64 m.src) ∧ w'.cell? ⟨w6.heap.size, 2, none⟩ = some (.int .i64 m.dst) ∧ w'.cell? ⟨w6.heap.size, 3, none⟩ = some (.int .i64 m.epoch) ∧ w'.cell? ⟨w6.heap.size, 4, none⟩ = some (.int .i64 m.seq) ∧ w'.cell? ⟨w6.heap.size, 5, none⟩ = some (.int .i64 m.off) ∧ w'.cell? ⟨w6.heap.size, 6, none⟩ = some (.int .i64 m.len) ∧ w'.cell? ⟨w6.heap.size, 7, none⟩ = some (.string m.data)) ∧ (w'.cell? ⟨wA.heap.size, 0, none⟩ = some (.int .i64 x.kind) ∧ w'.cell? ⟨wA.heap.size, 1, none⟩ = some (.int .i64 x.src) ∧ w'.cell? ⟨wA.heap.size, 2, none⟩ = some (.int .i64 x.dst) ∧ w'.cell? ⟨wA.heap.size, 3, none⟩ = some (.int .i64 x.epoch) ∧ w'.cell? ⟨wA.heap.size, 4, none⟩ = some (.int .i64 x.seq) ∧ w'.cell? ⟨wA.heap.size, 5, none⟩ = some (.int .i64 x.off) ∧ w'.cell? ⟨wA.heap.size, 6, none⟩ = some (.int .i64 x.len) ∧ w'.cell? ⟨wA.heap.size, 7, none⟩ = some (.string x.data)))
        (first | exact ⟨Qz.out.mm.all, Qz.out.xx.all⟩ | exact ⟨Qb.out.mm.all, Qb.out.xx.all⟩ | exact ⟨Q1.out.mm.all, Q1.out.xx.all⟩ | exact ⟨(Q1.out.below (belowA w1 x)).mm.all, (Q1.out.below (belowA w1 x)).xx.all⟩ | exact ⟨Q2.out.mm.all, Q2.out.xx.all⟩ | exact ⟨(Q2.out.below (belowA w2 x)).mm.all, (Q2.out.below (belowA w2 x)).xx.all⟩ | exact ⟨Q3.out.mm.all, Q3.out.xx.all⟩ | exact ⟨(Q3.out.below (belowA w3 x)).mm.all, (Q3.out.below (belowA w3 x)).xx.all⟩ | exact ⟨Q4.out.mm.all, Q4.out.xx.all⟩ | fail)
        (first
        | (go_at_call 14; with_reducible refine (list_any _ _ (t ++ [m]) wC.drew Qz.out.bg hL3).mono ?_; rintro e w1 ⟨v1, rfl, k1, k2⟩; have Q1 := Lib.hid (Qz.out.below k2); have V1 := Lib.hid k1; clear k1 k2)
        | (go_at_call 14; with_reducible refine (list_any _ _ (t ++ [m]) (wC.alloc (.cells x.cells 31)).drew Qb.out.bg hL3).mono ?_; rintro e w1 ⟨v1, rfl, k1, k2⟩; have Q1 := Lib.hid (Qb.out.below k2); have V1 := Lib.hid k1; have Z1 := Lib.hid (Zb.out.below k2); clear k1 k2)
        | (go_at_call 23; with_reducible refine (HC1.out w1 _ v1 V1.out).mono ?_; rintro e w2 ⟨rfl, k2⟩; have Z2 := Lib.hid (Z1.out.below k2); have Q2 := Lib.hid (Q1.out.below k2); clear k2)
        | (go_at_call 23; with_reducible refine (HC1.out w1 _ v1 V1.out).mono ?_; rintro e w2 ⟨rfl, k2⟩; have Q2 := Lib.hid (Q1.out.below k2); clear k2)
        | (go_at_call 23; with_reducible refine (HC1.out (w1.alloc (.cells x.cells 31)) _ v1 (V1.out.below (belowA w1 x))).mono ?_; rintro e w2 ⟨rfl, k2⟩; have Z2 := Lib.hid ((Owns.one w1 x).below k2); have Q2 := Lib.hid ((Q1.out.below (belowA w1 x)).below k2); clear k2)
        | (go_at_call 23; with_reducible refine (HC2.out w2 _ _ Q2.out.oa).mono ?_; rintro e w3 ⟨rfl, k2⟩; have Z3 := Lib.hid (Z2.out.below k2); have Q3 := Lib.hid (Q2.out.below k2); clear k2)
        | (go_at_call 23; with_reducible refine (HC2.out w2 _ _ Q2.out.oa).mono ?_; rintro e w3 ⟨rfl, k2⟩; have Q3 := Lib.hid (Q2.out.below k2); clear k2)
        | (go_at_call 23; with_reducible refine (HC2.out (w2.alloc (.cells x.cells 31)) _ _ (Q2.out.below (belowA w2 x)).oa).mono ?_; rintro e w3 ⟨rfl, k2⟩; have Z3 := Lib.hid ((Owns.one w2 x).below k2); have Q3 := Lib.hid ((Q2.out.below (belowA w2 x)).below k2); clear k2)
        | (go_at_call 23; with_reducible refine (HC3.out w3 _ _ Z3.out).mono ?_; rintro e w4 ⟨rfl, k2⟩; have Q4 := Lib.hid (Q3.out.below k2); clear k2)
        | (go_at_call 23; with_reducible refine (HC3.out (w3.alloc (.cells x.cells 31)) _ _ (Owns.one w3 x)).mono ?_; rintro e w4 ⟨rfl, k2⟩; have Q4 := Lib.hid ((Q3.out.below (belowA w3 x)).below k2); clear k2)
        | fail)
      all_goals
        go_wp2
        go_ret
        exact ⟨congrArg (fun b => Ending.returned (Value.bool b)) HE2.out, Q4.out.bel⟩
end Go.Proofs.Ythcoghgpdcnhlaa
