/-
  BagFor, walked.
-/
import Derived.Test.YthcoghgpdcnhlaaPlc
namespace Go.Proofs.Ythcoghgpdcnhlaa
open Go.RowKit

/-- A slice of numbers beside a bag stays as it is while the bag turns. -/
theorem OwnsI.fr {w w' : World} {base c : Nat} {rc : Option Nat} {v : Value} {l : List Int} (h : OwnsI w base v l) (hf : Fr c rc w w') (h3 : ∀ g, v.ownBlock = some g → g ≠ c ∧ some g ≠ rc) : OwnsI w' base v l :=
  h.kept fun g hg => hf.block g (h.lt hg).2 (h3 g hg).1 (h3 g hg).2

set_option maxRecDepth 100000 in
set_option maxHeartbeats 4000000 in
theorem bagFor_any (A : Option Addr) (n c : Nat) (st : Nat → Stp) (q : Int) (w : World) (hn : n ≤ 9223372036854775807) (hss : ∀ i, i < n → (st i).m.data.size ≤ 9223372036854775807) (hS : Steps w A n st) :
    Calls Try.prog 7 #[.slice A n c, .int .i64 q] w fun e w' => e = .returned (.bool true) ∧ Below w.heap.size w w' := by
  have HS := Lib.hid hS
  have HH := Lib.hid (heavy_any A n c st w hn hss hS)
  clear hS hss
  go_enter Try.func7, Try.ntmps7
  go_wp2_with fail
  go_at_call 9
  refine HH.out.mono ?_
  rintro e w' ⟨h, rfl, hh, rfl⟩
  cases h with
  | true =>
    clear hh
    go_wp2
    go_ret
    exact ⟨rfl, Below.refl _ _⟩
  | false =>
  have hn8 := hh rfl
  clear hh HH
  go_wp2_with fail
  go_at_call 10
  refine (new_any _).mono ?_
  rintro e w1 ⟨rfl, hB1, hb1, hz1⟩
  have T1 := Lib.hid hB1
  have B1 := Lib.hid hb1
  clear hB1 hb1
  go_wp2
  go_loopw [6] (fun iv wr => ∃ (k : Nat) (r : Option Nat) (l : List M), k ≤ n ∧ iv = .int .i64 k ∧ Bg wr w.heap.size r l ∧ Fit l ∧ Below w.heap.size w wr) (fun iv _ => n - (intOf iv).toNat)
  case atStart => exact ⟨0, none, [], Nat.zero_le _, rfl, T1.out, Fit.nil, B1.out⟩
  case round =>
    obtain ⟨k, r, l, hk, rfl, hT, hF, hB⟩ := hrel
    have T4 := Lib.hid hT
    have F4 := Lib.hid hF
    have B4 := Lib.hid hB
    have hl := hF.le
    clear hT hF hB
    by_cases hlt : k < n
    · have hlI : (k : Int) < (n : Int) := by omega
      have hkI : (0 : Int) ≤ (k : Int) := by omega
      obtain ⟨b, off, rfl, hat⟩ := HS.out k hlt
      have hbl := hat.lt
      obtain ⟨c0, c1, c2, c3, c4, c5, c6, c7, c8, c9⟩ := hat.kept (w' := wr) (fun o => B4.out.cell (p := ⟨b, o, none⟩) hbl)
      have HD := Lib.hid (send_any w.heap.size r l (st k).m wr T4.out (by omega))
      have FN := Lib.hid (F4.out.send (st k).m)
      generalize sendL l (st k).m = kl at HD FN
      generalize sendE l (st k).m = xx at HD
      generalize (st k).m = m at HD c2 c3 c4 c5 c6 c7 c8 c9
      generalize (st k).k = kk at c0
      clear hat
      by_cases h0 : kk = 0
      · subst h0
        go_wp2_with fail
        go_at_call 18
        refine HD.out.mono ?_
        rintro e wb ⟨rfl, rb, k1, k2, k3⟩
        have Tb := Lib.hid k1
        have Bb := Lib.hid (B4.out.trans (k3.belowB T4.out (Nat.le_refl _)))
        clear k1 k2 k3 c0 c1 c2 c3 c4 c5 c6 c7 c8 c9
        go_wp2
        go_roundw
        case rel => exact ⟨k + 1, _, kl, by omega, by go_num, Tb.out, FN.out, Bb.out⟩
        case measure => simp [intOf]; omega
      · have h1 : (kk == 0) = false := by simpa using h0
        go_wp2
        go_roundw
        case rel => exact ⟨k + 1, _, l, by omega, by go_num, T4.out, F4.out, B4.out⟩
        case measure => simp [intOf]; omega
    · have hlI : ¬ ((k : Int) < (n : Int)) := by omega
      go_wp2_with fail
      go_at_call 14
      refine (list_any _ _ l _ T4.out (by omega)).mono ?_
      rintro e wa ⟨va, rfl, k1, k2⟩
      have Va := Lib.hid k1
      have Ta := Lib.hid (T4.out.below k2)
      have Ba := Lib.hid (B4.out.trans (k2.mono B4.out.size))
      clear k1 k2
      go_wp2_with fail
      go_at_call 16
      refine (for_any _ _ l q _ Ta.out (by omega)).mono ?_
      rintro e wb ⟨vb, rfl, k1, k2⟩
      have Vb := Lib.hid k1
      have Tb := Lib.hid (Ta.out.below k2)
      have Bb := Lib.hid (Ba.out.trans (k2.mono Ba.out.size))
      have Wb := Lib.hid (Va.out.below k2)
      have PA := Lib.hid (show ∀ g, vb.ownBlock = some g → g ≠ w.heap.size ∧ some g ≠ r from fun g hg => by
        have h1 := (k1.lt hg).1
        have h2 := Ta.out.lt
        exact ⟨by omega, fun e => by have := (Ta.out.row_lt e.symm).2; omega⟩)
      clear k1 k2 Va Ta Ba
      obtain ⟨Aa, ca, rfl, haa⟩ := Wb.out.look
      obtain ⟨Ap, cp, rfl, hap⟩ := Vb.out.look
      have HA := Lib.hid haa
      have HP := Lib.hid hap
      clear haa hap Wb
      have hpl := plc_le q l l.length
      go_wp2
      go_loop [9, 10] (fun kv iv => ∃ i : Nat, i ≤ l.length ∧ iv = .int .i64 i ∧ kv = .int .i64 ((plc q l i).length : Int)) (fun _ iv => l.length - (intOf iv).toNat)
      case atStart => exact ⟨0, Nat.zero_le _, rfl, by simp [plc]⟩
      case round =>
        obtain ⟨i, hi, rfl, rfl⟩ := hrel
        by_cases hil : i < l.length
        · have hiI : (i : Int) < (l.length : Int) := by omega
          have hi0 : (0 : Int) ≤ (i : Int) := by omega
          obtain ⟨m, hm⟩ : ∃ m, l[i]? = some m := ⟨_, List.getElem?_eq_getElem hil⟩
          obtain ⟨ga, rfl, hga, hat⟩ := HA.out i m hm
          have c2 := hat.c2
          have hpi := plc_le q l i
          clear hat
          by_cases hd : (m.dst == q) = true
          · have hpa := plc_at hil hm hd
            have hkp : (plc q l i).length < (plc q l l.length).length := (List.getElem?_eq_some_iff.1 hpa).1
            obtain ⟨gp, rfl, hgp, hcp⟩ := HP.out _ _ hpa
            have HY := Lib.hid (show (plc q l (i + 1)).length = (plc q l i).length + 1 by rw [plc_yes hm hd]; simp)
            have hdq : m.dst = q := by simpa using hd
            generalize (plc q l i).length = kk at HY hkp hcp hpi
            generalize (plc q l l.length).length = pp at *
            have hk1 : (kk : Int) < (pp : Int) := by omega
            have hk2 : ¬ ((pp : Int) ≤ (kk : Int)) := by omega
            have hk0 : (0 : Int) ≤ (kk : Int) := by omega
            clear hpa hm hd
            go_wp2
            go_round
            case rel => exact ⟨i + 1, by omega, by go_num, by rw [HY.out]; go_num⟩
            case measure => simp [intOf]; omega
          · have hd' : (m.dst == q) = false := by simpa using hd
            have HY := Lib.hid (show (plc q l (i + 1)).length = (plc q l i).length by rw [plc_no hm hd'])
            clear hm hd
            go_wp2
            go_round
            case rel => exact ⟨i + 1, by omega, by go_num, by rw [HY.out]⟩
            case measure => simp [intOf]; omega
        · have hiI : ¬ ((i : Int) < (l.length : Int)) := by omega
          have hie : i = l.length := by omega
          subst hie
          have LS := Lib.hid (Left.start q l)
          clear HA
          obtain ⟨P, hP⟩ : ∃ P, plc q l l.length = P := ⟨_, rfl⟩
          have HPP := Lib.hid hP
          rw [hP] at hpl HP Vb LS ⊢
          clear hP
          go_wp2
          go_loopw [11] (fun iv wx => ∃ (j : Nat) (r : Option Nat) (L : List M), iv = .int .i64 ((j : Int) - 1) ∧ Left q l L j ∧ Bg wx w.heap.size r L ∧ OwnsI wx wa.heap.size (.slice Ap P.length cp) P ∧ (∀ g, (Value.slice Ap P.length cp).ownBlock = some g → g ≠ w.heap.size ∧ some g ≠ r) ∧ Below w.heap.size w wx) (fun iv _ => (intOf iv + 1).toNat)
          case atStart => exact ⟨P.length, r, l, by go_num, LS.out, Tb.out, Vb.out, HPP.out ▸ PA.out, Bb.out⟩
          case round =>
            obtain ⟨j, r', L, rfl, hL, hTx, hVx, hPx, hBx⟩ := hrel
            have T5 := Lib.hid hTx
            have B5 := Lib.hid hBx
            have V5 := Lib.hid hVx
            have P5 := Lib.hid hPx
            have hLl := hL.le
            clear hTx hBx hPx
            cases j with
            | zero =>
              have hsum := hL.all
              rw [HPP.out] at hsum
              clear hVx hL V5 P5 LS
              have HC := Lib.hid (cut_any w.heap.size r' L q _ T5.out (by omega))
              have hfl := List.length_filter_le (fun m => m.dst != q && m.src != q) L
              have HFM := Lib.hid (show ∀ (i : Nat) (m : M), (L.filter (fun m => m.dst != q && m.src != q))[i]? = some m → (m.src == q) = false ∧ (m.dst == q) = false from fun i m h => by
                have := (List.mem_filter.1 (List.mem_of_getElem? h)).2
                simp at this
                simp
                exact ⟨this.2, this.1⟩)
              generalize L.filter (fun m => m.dst != q && m.src != q) = F at HC hfl HFM
              obtain ⟨z, hz⟩ : ∃ z, (L.length : Int) - (F.length : Int) = z := ⟨_, rfl⟩
              rw [hz] at HC
              have hz0 : 0 ≤ z := by omega
              have hz64 : z ≤ 64 := by omega
              have HE := Lib.hid (show ((F.length : Int) + z + (P.length : Int) == (l.length : Int)) = true by simp; omega)
              have hF64 : F.length ≤ 64 := by omega
              have hP64 : P.length ≤ 64 := by omega
              clear hz hsum hfl hLl
              go_wp2_with fail
              go_at_call 22
              refine HC.out.mono ?_
              rintro e wc ⟨rfl, rc, k1, k2, k3⟩
              have T6 := Lib.hid k1
              have B6 := Lib.hid (B5.out.trans (k3.belowB T5.out (Nat.le_refl _)))
              clear k1 k2 k3
              go_wp2_with fail
              go_at_call 14
              refine (list_any _ _ F _ T6.out (by omega)).mono ?_
              rintro e wd ⟨vd, rfl, k1, k2⟩
              have B7 := Lib.hid (B6.out.trans (k2.mono B6.out.size))
              obtain ⟨Af, cf, rfl, haf⟩ := k1.look
              have HF := Lib.hid haf
              clear k1 k2 haf
              go_wp2
              go_loop [16] (fun iv => ∃ i : Nat, i ≤ F.length ∧ iv = .int .i64 i) (fun iv => F.length - (intOf iv).toNat)
              case atStart => exact ⟨0, Nat.zero_le _, rfl⟩
              case round =>
                obtain ⟨i, hi, rfl⟩ := hrel
                by_cases hil : i < F.length
                · have hiI' : (i : Int) < (F.length : Int) := by omega
                  have hi0 : (0 : Int) ≤ (i : Int) := by omega
                  obtain ⟨m, hm⟩ : ∃ m, F[i]? = some m := ⟨_, List.getElem?_eq_getElem hil⟩
                  obtain ⟨gf, rfl, hgf, hat⟩ := HF.out i m hm
                  have c1 := hat.c1
                  have c2 := hat.c2
                  obtain ⟨hs1, hs2⟩ := HFM.out i m hm
                  clear hat hm
                  go_wp2
                  go_round
                  case rel => exact ⟨i + 1, by omega, by go_num⟩
                  case measure => simp [intOf]; omega
                · have hiI' : ¬ ((i : Int) < (F.length : Int)) := by omega
                  go_wp2_with fail
                  go_at_call 10
                  refine (new_any _).mono ?_
                  rintro e wn ⟨rfl, hBn, hbn, hzn⟩
                  go_wp2_with fail
                  go_at_call 11
                  refine (take_new _ _ _ hBn).mono ?_
                  rintro e wt ⟨rfl, hft⟩
                  have hb2 := B7.out.trans ((Fr.new_below hbn hft (Nat.le_refl _) rfl).mono B7.out.size)
                  have BE := Lib.hid (show Below w.heap.size w (wt.alloc (.cells M.zero.cells 31)) from hb2.alloc hb2.size _)
                  have he := HE.out
                  clear hBn hbn hzn hft hb2
                  go_wp2
                  go_ret
                  exact ⟨rfl, BE.out⟩
            | succ j =>
              obtain ⟨a, m, hpa, hLa, hmd, hL'⟩ := hL.step
              rw [HPP.out] at hpa
              have hjP : j < P.length := (List.getElem?_eq_some_iff.1 hpa).1
              obtain ⟨A9, c9, h9, hat9⟩ := hVx.look
              obtain ⟨gp, hgpe, hgp, hcp⟩ := hat9 j _ hpa
              simp only [Value.slice.injEq] at h9
              obtain ⟨rfl, -, rfl⟩ := h9
              subst hgpe
              have HT := Lib.hid (take_yes w.heap.size r' L a (a : Int) m _ T5.out hLa rfl (by omega))
              have LN := Lib.hid hL'
              have hj1 : ((j + 1 : Nat) : Int) - 1 = (j : Int) := by omega
              have hj0 : (0 : Int) ≤ (j : Int) := by omega
              have hjI : (j : Int) < (P.length : Int) := by omega
              have hmq : (m.dst != q) = false := by simpa using hmd
              rw [hj1]
              clear hL hL' hpa hLa hat9 hVx hmd
              go_wp2_with fail
              go_at_call 11
              refine HT.out.mono ?_
              rintro e wc ⟨rfl, rc, k1, k2, k3⟩
              have hbz : Below wc.heap.size wc (wc.alloc (.cells m.cells 31)) := (Below.refl _ _).alloc (Nat.le_refl _) _
              have T6 := Lib.hid (k1.below hbz)
              have B6 := Lib.hid ((B5.out.trans (k3.belowB T5.out (Nat.le_refl _))).trans (hbz.mono (Nat.le_trans B5.out.size k3.size)))
              have V6 := Lib.hid ((V5.out.fr k3 P5.out).below hbz)
              have P6 := Lib.hid (show ∀ g, (Value.slice (some ⟨gp, 0, none⟩) P.length cp).ownBlock = some g → g ≠ w.heap.size ∧ some g ≠ rc from fun g hg => by
                refine ⟨(P5.out g hg).1, ?_⟩
                rcases k2 with h | h | ⟨g', h, hg'⟩
                · rw [h]; exact (P5.out g hg).2
                · rw [h]; simp
                · rw [h]; intro e; injection e with e; have := (V5.out.lt hg).2; omega)
              clear k1 k2 k3 hbz
              go_wp2
              go_roundw
              case rel => exact ⟨j, rc, rest L a, by go_num, LN.out, T6.out, V6.out, P6.out, B6.out⟩
              case measure => simp [intOf]
end Go.Proofs.Ythcoghgpdcnhlaa
