/-
  QuorumOne (weirkeeplaw11), walked.
-/
import Derived.Test.YtkcbmkedhipgeaaGreatDoorChs11
namespace Go.Proofs.YtkcbmkedhipgeaaGreatDoor
open Go.RowKit Go.ChangeMaps

set_option maxRecDepth 100000 in
set_option maxHeartbeats 8000000 in
theorem quorumOne_any (n0 : Int) (A : Option Addr) (n c : Nat) (st : Nat → Stp) (w : World) (hT : Tab w) (hE : ErrType w) (hS : SIn w A n st) (hn : n ≤ 9223372036854775807) :
    Calls Tryz.prog 4 #[.int .i64 n0, .slice A n c] w fun e w' => e = .returned (.bool true) ∧ Below w.heap.size w w' := by
  have HH := Lib.hid (heavy_any (c := c) hS hn)
  have HSh := Lib.hid (fun (W : World) => shown_any W)
  have HT := Lib.hid hT
  have HE := Lib.hid hE
  have HB := Lib.hid hS
  clear hT hE hS
  go_enter Tryz.func4, Tryz.ntmps4
  go_wp2_with fail
  go_at_call 9
  refine HH.out.mono ?_
  rintro e w0 ⟨hv, rfl, rfl, hno⟩
  clear HH
  cases hv with
  | true =>
    clear hno
    go_wp2_with (go_at_call 10; refine (HSh.out _).mono ?_; rintro e w' ⟨rfl, hb⟩; have HBs := Lib.hid hb; clear hb)
    go_ret
    exact ⟨rfl, HBs.out⟩
  | false =>
    have hn80 := hno rfl
    clear hno
    obtain ⟨q, hq1⟩ : ∃ q : Nat, min (max n0 1) 5 = (q : Int) := ⟨(min (max n0 1) 5).toNat, by omega⟩
    have hq2 : max 1 (min n0 5) = (q : Int) := by omega
    have hq0 : 0 < q := by omega
    have hq5 : q ≤ 5 := by omega

    go_wp2_with fail
    go_at_call 10
    refine (HSh.out _).mono ?_
    rintro e w1 ⟨rfl, hb1⟩
    have HB1 := Lib.hid hb1
    clear hb1 HSh
    go_wp2_with fail
    go_at_call 11
    refine (new11_any n0 q w1 hq1 hq0 hq5).mono ?_
    rintro e w2 ⟨g, P0, rfl, hp, hPB, hb2⟩
    have HP := Lib.hid hp
    have HPB := Lib.hid hPB
    have HB2 := Lib.hid hb2
    clear hp hPB hb2
    go_wp2_with fail
    go_at_call 12
    refine (rnew11_any n0 q w2 hq2 hq0 hq5).mono ?_
    rintro e w3 ⟨r, Q0, rfl, hr, hQB, hb3⟩
    have H3 := Lib.hid (BB.start HB1.out HP.out HPB.out HB2.out hr hQB hb3)
    clear hr hQB hb3 HP HPB HB1 HB2
    have hb4 : Below w3.heap.size w3 (w3.alloc (.cells #[] 9)) := (Below.refl _ _).alloc (Nat.le_refl _) _
    obtain ⟨h4, -⟩ := H3.out.below hb4
    have hc4 : CH w (w3.alloc (.cells #[] 9)) (Gp.start q) P0 Q0 (.slice (some ⟨w3.heap.size, 0, none⟩) 0 0) [] 0 := by
      refine ⟨World.ownsRow_lit (base := w.heap.size) (e := 9) (size := 1) w3 #[] 0 H3.out.un.size (by simp) rfl, fun k hk => ?_, fun k x hk => by simp at hk, Nat.le_refl _⟩
      have e : w3.heap.size = k := by simpa [Value.ownBlock] using hk
      refine ⟨fun hF => ?_, fun i hi e' => ?_⟩
      · have := H3.out.pg.F_lt hF; omega
      · have := H3.out.lrLt hi e'; omega
    go_wp2_with fail
    generalize w3.alloc (.cells #[] 9) = w4 at h4 hc4 ⊢
    have H4 := Lib.hid h4
    have HC4 := Lib.hid hc4
    clear h4 hc4 hb4 H3
    go_loopw [7, 8] (fun cv iv wr => ∃ (i : Nat) (S : Gp) (P : Pl) (Q : Ql) (A1 : Option Addr) (c1 : Nat) (ch : List ByteArray), i ≤ n ∧ iv = .int .i64 i ∧ cv = .slice A1 ch.length c1 ∧ S.n = q ∧ LV S i ∧ BB w wr g r S S P Q ∧ CH w wr S P Q (.slice A1 ch.length c1) ch i) (fun cv iv _ => n - (RowKit.intOf iv).toNat)
    case atStart => exact ⟨0, _, P0, Q0, _, _, [], Nat.zero_le _, rfl, rfl, rfl, LV.start q hq0 hq5, H4.out, HC4.out⟩
    case round =>
      obtain ⟨i, S, P, Q, A1, c1, ch, hi, rfl, rfl, hSn, hL, hbb, hch⟩ := hrel
      have HL := Lib.hid hL
      have HBB := Lib.hid hbb
      have HCh := Lib.hid hch
      clear hL hbb H4 HC4 hch
      by_cases hlt : i < n
      · obtain ⟨ga, off, rfl, hc⟩ := HB.out.cells HBB.out.un hlt
        obtain ⟨o, ho⟩ : ∃ o, st i = o := ⟨_, rfl⟩
        rw [ho] at hc
        obtain ⟨q0, q1, q2, q3, q4, q5⟩ := hc
        have hlI : (i : Int) < (n : Int) := by omega
        have hiI : (0 : Int) ≤ (i : Int) := by omega
        have HD := Lib.hid (does_any HBB.out HL.out (by omega) HT.out HE.out o q5)
        have HL2 := Lib.hid (HL.out.does o)
        have hn2 := (do_n HL.out o).trans hSn
        have HCd := Lib.hid (fun (P' : Pl) (Q' : Ql) (w' : World) (hx : BX S.n P P' Q Q' wr w') => HCh.out.does HL.out o hx)
        clear ho HCh HL
        generalize doS S o = S2 at HD HL2 hn2 HCd
        go_wp2_with fail
        go_at_call 14
        refine HD.out.mono ?_
        rintro e w4 ⟨P', Q', rfl, h4, x4⟩
        have H4 := Lib.hid h4
        have HC4 := Lib.hid (HCd.out P' Q' w4 x4)
        clear HD h4 x4 HBB q0 q1 q2 q3 q4 HCd
        go_wp2_with fail
        go_loopw [9] (fun kv wx => ∃ k : Nat, k ≤ ch.length ∧ kv = .int .i64 k ∧ BB w wx g r S2 S2 P' Q' ∧ Below w4.heap.size w4 wx) (fun kv _ => ch.length - (RowKit.intOf kv).toNat)
        case atStart => exact ⟨0, Nat.zero_le _, rfl, H4.out, Below.refl _ _⟩
        case round =>
          obtain ⟨k, hk, rfl, hbk, hwk⟩ := hrel
          have HBk := Lib.hid hbk
          have HWk := Lib.hid hwk
          clear hbk hwk H4
          by_cases hkc : k < ch.length
          · have hkI : (k : Int) < (ch.length : Int) := by omega
            have hk0 : (0 : Int) ≤ (k : Int) := by omega
            have hcl := HC4.out.len
            obtain ⟨x, hx⟩ : ∃ x, ch[k]? = some x := ⟨_, List.getElem?_eq_getElem hkc⟩
            have HC := Lib.hid (bb_cho HBk.out HL2.out (k : Int) ((i64_iff _).2 (by omega)))
            rw [HC4.out.cho k x hx] at HC
            have Hx := Lib.hid hx
            clear HBk hx
            go_wp2_with fail
            go_at_call 18
            refine HC.out.mono ?_
            rintro e w5 ⟨rfl, h5, b5⟩
            have hw5 := HWk.out.trans (b5.mono HWk.out.size)
            obtain ⟨gc, rfl, hgc, p1⟩ := (OwnsS.below hw5 HC4.out.row).at Hx.out
            have H5 := Lib.hid h5
            have HW5 := Lib.hid hw5
            clear HC h5 b5 hw5
            go_wp2
            go_roundw
            case rel => exact ⟨k + 1, by omega, by go_num, H5.out, HW5.out⟩
            case measure => simp only [RowKit.intOf]; omega
          · have hkI : ¬ (k : Int) < (ch.length : Int) := by omega
            have HCk := Lib.hid (HC4.out.below HWk.out)
            clear HC4 HWk
            go_wp2_with fail
            go_loopw [7, 12] (fun cv jv wx => ∃ (j : Nat) (A1 : Option Addr) (c1 : Nat) (ch : List ByteArray), j ≤ q ∧ jv = .int .i64 j ∧ cv = .slice A1 ch.length c1 ∧ BB w wx g r S2 S2 P' Q' ∧ CH w wx S2 P' Q' (.slice A1 ch.length c1) ch (i + 1)) (fun cv jv _ => q - (RowKit.intOf jv).toNat)
            case atStart => exact ⟨0, _, _, _, Nat.zero_le _, rfl, rfl, HBk.out, HCk.out⟩
            case round =>
              obtain ⟨j, A3, c3, ch3, hj, rfl, rfl, hb3, hc3⟩ := hrel
              have hlen := len_any hb3.pg
              rw [hn2] at hlen
              have HLen := Lib.hid hlen
              have HB3 := Lib.hid hb3
              have HC3 := Lib.hid hc3
              clear hb3 hc3 hlen HBk HCk
              by_cases hjq : j < q
              · have hjI : (j : Int) < (q : Int) := by omega
                have HG := Lib.hid (bb_log HB3.out HL2.out (by omega) j)
                have hj2 : j < S2.n := by omega
                have hll := logOf_len HL2.out j
                have HTd := Lib.hid (show ∀ (a : Nat) y, (logOf S2 j)[a]? = some y → choOf S2 a = (y, true) from fun a y hy => HL2.out.inv.told hj2 (by rw [← logOf_at hj2]; exact hy))
                obtain ⟨l, hl⟩ : ∃ l, logOf S2 j = l := ⟨_, rfl⟩
                rw [hl] at HG HTd hll
                clear HB3 hl
                go_wp2_with (first
                  | (go_at_call 13; (with_reducible refine HLen.out.mono ?_); rintro e w5 ⟨rfl, rfl⟩)
                  | fail)
                go_at_call 16
                refine HG.out.mono ?_
                rintro e w5 ⟨vl, rfl, ol, fl, h5, b5⟩
                have hne : ∀ b, (Value.slice A3 ch3.length c3).ownBlock = some b → vl.ownBlock ≠ some b := fun b hb e => by
                  have a1 := (HC3.out.row.lt hb).2
                  have a2 := (ol.lt e).1
                  omega
                have HC5 := Lib.hid (HC3.out.below b5)
                obtain ⟨Al, cl, rfl, -⟩ := ol.form
                have HOl := Lib.hid ol
                have HNe := Lib.hid hne
                have H5 := Lib.hid h5
                clear HG h5 b5 ol fl hne HC3 HLen
                go_wp2_with fail
                go_loopw [14] (fun av wy => ∃ a : Nat, a ≤ l.length ∧ av = .int .i64 a ∧ BB w wy g r S2 S2 P' Q' ∧ Below w5.heap.size w5 wy) (fun av _ => l.length - (RowKit.intOf av).toNat)
                case atStart => exact ⟨0, Nat.zero_le _, rfl, H5.out, Below.refl _ _⟩
                case round =>
                  obtain ⟨a, ha, rfl, hba, hwa⟩ := hrel
                  have HBa := Lib.hid hba
                  have HWa := Lib.hid hwa
                  clear hba hwa H5
                  by_cases hal : a < l.length
                  · have haI : (a : Int) < (l.length : Int) := by omega
                    have ha0 : (0 : Int) ≤ (a : Int) := by omega
                    obtain ⟨x, hx⟩ : ∃ x, l[a]? = some x := ⟨_, List.getElem?_eq_getElem hal⟩
                    have HC := Lib.hid (bb_cho HBa.out HL2.out (a : Int) ((i64_iff _).2 (by omega)))
                    rw [HTd.out a x hx] at HC
                    have Hx := Lib.hid hx
                    clear HBa hx
                    go_wp2_with fail
                    go_at_call 18
                    refine HC.out.mono ?_
                    rintro e w6 ⟨rfl, h6, b6⟩
                    have hw6 := HWa.out.trans (b6.mono HWa.out.size)
                    obtain ⟨gc, rfl, hgc, p1⟩ := (OwnsS.below hw6 HOl.out).at Hx.out
                    have H6 := Lib.hid h6
                    have HW6 := Lib.hid hw6
                    clear HC h6 b6 hw6
                    go_wp2
                    go_roundw
                    case rel => exact ⟨a + 1, by omega, by go_num, H6.out, HW6.out⟩
                    case measure => simp only [RowKit.intOf]; omega
                  · have haI : ¬ (a : Int) < (l.length : Int) := by omega
                    have HOa := Lib.hid (OwnsS.below HWa.out HOl.out)
                    have HCa := Lib.hid (HC5.out.below HWa.out)
                    clear HC5 HWa HOl
                    go_wp2_with fail
                    obtain ⟨bl, hbl⟩ : ∃ bl, bl = wr.heap.size := ⟨_, rfl⟩
                    go_loopw [7] (fun cv wz => ∃ (A1 : Option Addr) (c1 : Nat) (ch : List ByteArray) (b2 : Nat), cv = .slice A1 ch.length c1 ∧ BB w wz g r S2 S2 P' Q' ∧ CH w wz S2 P' Q' (.slice A1 ch.length c1) ch (i + 1) ∧ OwnsS wz b2 (.slice Al l.length cl) l ∧ ∀ b, (Value.slice A1 ch.length c1).ownBlock = some b → (Value.slice Al l.length cl).ownBlock ≠ some b) (fun cv _ => l.length - lenOf cv)
                    case atStart => exact ⟨_, _, _, _, rfl, HBa.out, HCa.out, HOa.out, HNe.out⟩
                    case round =>
                      obtain ⟨A6, c6, ch6, b2, rfl, hb6, hc6, ho6, hne6⟩ := hrel
                      have hm6 := hc6.len
                      have HB6 := Lib.hid hb6
                      have HC6 := Lib.hid hc6
                      have HO6 := Lib.hid ho6
                      have HN6 := Lib.hid hne6
                      clear hb6 hc6 ho6 hne6 HBa HCa HOa HNe
                      by_cases hcl : ch6.length < l.length
                      · have hcI : (ch6.length : Int) < (l.length : Int) := by omega
                        have hc0 : (0 : Int) ≤ (ch6.length : Int) := by omega
                        obtain ⟨x, hx⟩ : ∃ x, l[ch6.length]? = some x := ⟨_, List.getElem?_eq_getElem hcl⟩
                        obtain ⟨gc, rfl, hgc, p1⟩ := HO6.out.at hx
                        have HX := Lib.hid (HTd.out ch6.length x hx)
                        have hb7 : Below wr.heap.size wr (wr.alloc (.cells #[.string x] 9)) := (Below.refl _ _).alloc (Nat.le_refl _) _
                        have HB7 := Lib.hid hb7
                        have HR7 := Lib.hid (HC6.out.below hb7).row
                        have hsz : w.heap.size ≤ (wr.alloc (.cells #[.string x] 9)).heap.size := Nat.le_trans HB6.out.un.size hb7.size
                        clear hx hb7
                        go_wp2_with (at_builtin; refine wpList_appS rfl (.tmp 101) (.tmp 107) rfl w.heap.size rfl HR7.out rfl (m := [x]) (base' := 0) (show OwnsS _ 0 (.slice (some ⟨wr.heap.size, 0, none⟩) 1 1) [x] from World.ownsRow_lit (base := 0) (e := 9) (size := 1) wr #[.string x] 1 (Nat.zero_le _) (by unfold maxLen; omega) rfl) (by simp; omega) hsz _ rfl ?_; intro A7 cap7 w7 ho7 hg7 ht7; have K7 := Lib.hid (CH.push HB6.out HC6.out HO6.out HN6.out HB7.out hg7 ho7 ht7 HX.out (by omega)); clear ho7 hg7 ht7)
                        go_roundw
                        case rel =>
                          obtain ⟨k1, k2, k3, k4⟩ := K7.out
                          exact ⟨A7, cap7, ch6 ++ [x], b2, by rw [List.length_append]; rfl, k1, by rw [List.length_append]; exact k2, k3, by rw [List.length_append]; exact k4⟩
                        case measure => simp only [lenOf]; omega
                      · have hcI : ¬ (ch6.length : Int) < (l.length : Int) := by omega
                        go_wp2
                        go_roundw
                        case rel => exact ⟨j + 1, A6, c6, ch6, by omega, by go_num, rfl, HB6.out, HC6.out⟩
                        case measure => simp only [RowKit.intOf]; omega
              · have hjI : ¬ (j : Int) < (q : Int) := by omega
                go_wp2_with (go_at_call 13; (with_reducible refine HLen.out.mono ?_); rintro e w5 ⟨rfl, rfl⟩)
                go_roundw
                case rel => exact ⟨i + 1, S2, P', Q', A3, c3, ch3, by omega, by go_num, rfl, hn2, HL2.out, HB3.out, HC3.out⟩
                case measure => simp only [RowKit.intOf]; omega
      · have hlI : ¬ ((i : Int) < (n : Int)) := by omega
        go_wp2
        go_ret
        exact ⟨rfl, HBB.out.un⟩
end Go.Proofs.YtkcbmkedhipgeaaGreatDoor
