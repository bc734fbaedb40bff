/-
  Load of the document's own acceptor (weirkeepref10), by a contract.
-/
import Derived.Test.YtacbodojbekeeaaDoorRld
import Derived.Deep.LoopGhost
import Derived.Deep.CutBlock
import Derived.Deep.DeepCutAuto
namespace Go.Proofs.YtacbodojbekeeaaDoor
open Go.RowKit Go.Lib Go.PlainAid

set_option maxRecDepth 100000 in
set_option maxHeartbeats 8000000 in
theorem rload_any (s : ByteArray) (w : World) (hs : s.size ≤ 1000000000) (hsz : (openOf s).1.size ≤ 1000000000) :
    Calls Tryd.prog 23 #[.string s] w fun e w' => ∃ v k, e = .returned (.tuple #[v, .int .i64 k]) ∧ Below w.heap.size w w' ∧
      ((loadOf s = none ∧ v = .pointer none ∧ k = 30) ∨ ∃ A r, loadOf s = some A ∧ v = .pointer (some ⟨r, 0, none⟩) ∧ k = 0 ∧ w.heap.size ≤ r ∧ RA w' r A) := by
  have HO := Lib.hid (ropen_any s w (by omega))
  have HL := Lib.hid (show loadOf s = if (openOf s).2 = true then parse (openOf s).1 else none from rfl)
  obtain ⟨t, ok, hok⟩ : ∃ t ok, openOf s = (t, ok) := ⟨_, _, rfl⟩
  rw [hok] at HO hsz HL
  clear hok
  go_enter Tryd.func23, Tryd.ntmps23
  go_wp2_with fail
  go_at_call 48
  refine HO.out.mono ?_
  rintro e w1 ⟨rfl, hb1⟩
  have hd1 : Dl w w1.heap.size t (w1.alloc (.cells #[.string t, .int .i64 0] 99)) 0 :=
    ⟨hb1.size, ⟨by simp, by simp, by simp⟩, Nat.zero_le _, hsz, hb1.trans ((Below.refl _ _).alloc hb1.size _ |>.mono (Nat.le_refl _))⟩
  have HD1 := Lib.hid hd1
  clear hd1 hb1 HO hs hsz
  go_wp2_with fail
  generalize w1.alloc (.cells #[.string t, .int .i64 0] 99) = w2 at HD1 ⊢
  generalize w1.heap.size = R at HD1 ⊢
  go_at_call 49
  refine (rrnumAt R 0 t 8 (.inr rfl) w2 HD1.out.rdr HD1.out.le HD1.out.sz).mono ?_
  rintro e w3 ⟨p, A1, m1, c1, at1, es1, q1, rfl, rf1, hm1, hr1, hq1, hf1, hor1⟩
  have HF3 := Lib.hid (Flt.fresh (at_ := at1) rf1 hm1)
  have HD3 := Lib.hid ((HD1.out.to hr1 hq1 hf1).low (below_row0 w3 (.cells #[.slice A1 m1 c1, .int .i64 at1] 94)))
  have HO1 := Lib.hid hor1
  clear rf1 hm1 hr1 hq1 hf1 hor1 HD1
  go_wp2_with fail
  generalize w3.alloc (.cells #[.slice A1 m1 c1, .int .i64 at1] 94) = w4 at HF3 HD3 ⊢
  generalize w3.heap.size = z1 at HF3 ⊢
  go_at_call 49
  refine (rrnumAt R q1 t 2 (.inl rfl) w4 HD3.out.rdr HD3.out.le HD3.out.sz).mono ?_
  rintro e w5 ⟨n, A2, m2, c2, at2, es2, q2, rfl, rf2, hm2, hr2, hq2, hf2, hor2⟩
  have HF5 := Lib.hid (Flt.fresh (at_ := at2) rf2 hm2)
  have hbl := below_row0 w5 (.cells #[.slice A2 m2 c2, .int .i64 at2] 94)
  have HG5 := Lib.hid ((HF3.out.fbR HD3.out.rdr hf2).below hbl)
  have HD5 := Lib.hid ((HD3.out.to hr2 hq2 hf2).low hbl)
  have HO2 := Lib.hid hor2
  clear rf2 hm2 hr2 hq2 hf2 hor2 HD3 HF3 hbl
  go_upto_region 5 with fail
  generalize w5.alloc (.cells #[.slice A2 m2 c2, .int .i64 at2] 94) = w6 at HF5 HG5 HD5 ⊢
  generalize w5.heap.size = z2 at HF5 ⊢
  obtain ⟨x0, x1⟩ := HG5.out.cells
  obtain ⟨y0, y1⟩ := HF5.out.cells
  go_cut [53] from 38 to 53 (fun s53 wx => ∃ tst, s53 = .bool tst ∧ Dl w R t wx q2 ∧ (tst = true → loadOf s = none) ∧ (tst = false → ok = true ∧ numAt t 0 8 = some p ∧ numAt t 8 2 = some n ∧ q2 = 10 ∧ p ≤ 1099511627776))
  case first =>
    cases ok with
    | false =>
      go_wp2
      go_meet
      case rel => exact ⟨true, rfl, HD5.out, fun _ => HL.out, fun h => by cases h⟩
    | true =>
      have hL : loadOf s = parse t := HL.out
      have HLp := Lib.hid hL
      clear hL HL
      have HC1 := Lib.hid (rcode_any A1 m1 c1 es1 at1 w6 HG5.out.rf HG5.out.few)
      go_wp2_with fail
      go_at_call 50
      refine HC1.out.mono ?_
      rintro e w7 ⟨rfl, hb7⟩
      have HD7 := Lib.hid (HD5.out.low hb7)
      have HF7 := Lib.hid (HF5.out.below hb7)
      obtain ⟨y0, y1⟩ := HF7.out.cells
      clear hb7 HC1 HF5 HG5 HD5 x0 x1
      generalize es1.headD 0 = k1 at HO1 ⊢
      by_cases hk1 : k1 = 0
      · have hd1 : (k1 != 0) = false := by simp [hk1]
        have ho1 : numAt t 0 8 = some p ∧ q1 = 8 := by
          rcases HO1.out with ⟨h1, -, h3⟩ | ⟨-, -, -, h4⟩
          · exact ⟨h1, by omega⟩
          · exact absurd hk1 h4
        have HC2 := Lib.hid (rcode_any A2 m2 c2 es2 at2 w7 HF7.out.rf HF7.out.few)
        clear HO1
        go_wp2_with fail
        go_at_call 50
        refine HC2.out.mono ?_
        rintro e w8 ⟨rfl, hb8⟩
        have HD8 := Lib.hid (HD7.out.low hb8)
        clear hb8 HC2 HF7 HD7 y0 y1
        generalize es2.headD 0 = k2 at HO2 ⊢
        obtain ⟨hp1, rfl⟩ := ho1
        by_cases hk2 : k2 = 0
        · have hd2 : (k2 != 0) = false := by simp [hk2]
          have ho2 : numAt t 8 2 = some n ∧ q2 = 10 := by
            rcases HO2.out with ⟨h1, -, h3⟩ | ⟨-, -, -, h4⟩
            · exact ⟨h1, by omega⟩
            · exact absurd hk2 h4
          obtain ⟨hp2, rfl⟩ := ho2
          have HP1 := Lib.hid hp1
          have HP2 := Lib.hid hp2
          clear HO2 hp1 hp2
          by_cases hp : 1099511627776 < p
          · have hdp : decide (1099511627776 < p) = true := decide_eq_true hp
            go_wp2
            go_meet
            case rel => exact ⟨true, rfl, HD8.out, fun _ => (by rw [HLp.out]; unfold parse; rw [HP1.out]; simp only; rw [if_neg (by omega)]), fun h => by cases h⟩
          · have hdp : decide (1099511627776 < p) = false := decide_eq_false hp
            go_wp2
            go_meet
            case rel => exact ⟨false, rfl, HD8.out, fun h => (by cases h), fun _ => ⟨by trivial, HP1.out, HP2.out, by trivial, by omega⟩⟩
        · have hd2 : (k2 != 0) = true := by simp [hk2]
          have HP2 := Lib.hid (show numAt t 8 2 = none from by
            rcases HO2.out with ⟨-, h2, -⟩ | ⟨h1, -⟩
            · exact absurd h2 hk2
            · exact h1)
          have HP1 := Lib.hid hp1
          clear HO2 hp1
          go_wp2
          go_meet
          case rel => exact ⟨true, rfl, HD8.out, fun _ => (by rw [HLp.out]; unfold parse; rw [HP1.out]; simp only; split; (rw [HP2.out]); rfl), fun h => by cases h⟩
      · have hd1 : (k1 != 0) = true := by simp [hk1]
        have HP1 := Lib.hid (show numAt t 0 8 = none from by
          rcases HO1.out with ⟨-, h2, -⟩ | ⟨h1, -⟩
          · exact absurd h2 hk1
          · exact h1)
        clear HO1 HO2
        go_wp2
        go_meet
        case rel => exact ⟨true, rfl, HD7.out, fun _ => (by rw [HLp.out]; unfold parse; rw [HP1.out]), fun h => by cases h⟩
  case rest =>
    obtain ⟨tst, rfl, hd, h1, h2⟩ := hcut
    have HD := Lib.hid hd
    have HT1 := Lib.hid h1
    have HT2 := Lib.hid h2
    clear hd h1 h2 HD5 HF5 HG5 x0 x1 y0 y1 HO1 HO2
    cases tst with
    | true =>
      go_wp2
      go_ret2
      exact ⟨_, _, rfl, HD.out.below, .inl ⟨HT1.out (by trivial), rfl, rfl⟩⟩
    | false =>
      obtain ⟨rfl, hn1, hn2, rfl, hp⟩ := HT2.out (by trivial)
      have HWell := Lib.hid (show loadOf s = parse t ∧ Well t p [] n.toNat 10 (-1) from by
        refine ⟨HL.out, hp, by omega, by omega, fun y hy => (by cases hy), ?_⟩
        unfold parse
        rw [hn1]
        simp only
        rw [if_pos hp, hn2]
        simp only [List.nil_append])
      have hn63 : n ≤ 65535 := numAt_lt2 hn2
      have hn0 := (numAt_some hn2).2.2.1
      have hp0 := (numAt_some hn1).2.2.1
      clear HT1 HT2 hn1 hn2 HL
      have HR0 := Lib.hid (Dr.fresh wc)
      have HD0 := Lib.hid (HD.out.low (below_row0 wc (.cells #[.int .i64 0, .slice none 0 0] 30)))
      have hlr : w.heap.size ≤ wc.heap.size := HD.out.below.size
      have hsr : wc.heap.size < (wc.alloc (.cells #[.int .i64 0, .slice none 0 0] 30)).heap.size := by simp
      clear HD
      go_wp2
      generalize wc.alloc (.cells #[.int .i64 0, .slice none 0 0] 30) = w9 at HR0 HD0 hsr ⊢
      generalize wc.heap.size = r at HR0 hlr hsr ⊢
      go_loopw [12, 13] (fun lv iv wr => ∃ (i q : Nat) (l : List V) (last : Int), iv = .int .i64 i ∧ lv = .int .i64 last ∧ i ≤ n.toNat ∧ Dl w R t wr q ∧ Dr r wr l ∧ Well t p l (n.toNat - i) q last) (fun _ iv _ => n.toNat - (RowKit.intOf iv).toNat)
      case atStart => exact ⟨0, 10, [], -1, rfl, rfl, Nat.zero_le _, HD0.out, HR0.out, HWell.out.2⟩
      case round =>
        obtain ⟨i, q, l, last, rfl, rfl, hi, hd, hr, hw⟩ := hrel
        have HD := Lib.hid hd
        have HR := Lib.hid hr
        have HW := Lib.hid hw
        have HLp := Lib.hid HWell.out.1
        clear hd hr hw HD0 HR0 HWell
        by_cases hlt : i < n.toNat
        · have hiI : (i : Int) < n := by omega
          have hi0 : (0 : Int) ≤ (i : Int) := by omega
          go_wp2_with fail
          go_at_call 49
          refine (rrnumAt R q t 2 (.inl rfl) wr HD.out.rdr HD.out.le HD.out.sz).mono ?_
          rintro e wa ⟨sl, A3, m3, c3, at3, es3, q3, rfl, rf3, hm3, hr3, hq3, hf3, hor3⟩
          have HF3 := Lib.hid (Flt.fresh (at_ := at3) rf3 hm3)
          have hbl := below_row0 wa (.cells #[.slice A3 m3 c3, .int .i64 at3] 94)
          have HD3 := Lib.hid ((HD.out.to hr3 hq3 hf3).low hbl)
          have HR3 := Lib.hid ((HR.out.fbR HD.out.rdr hf3).low hbl)
          have HO3 := Lib.hid hor3
          clear rf3 hm3 hr3 hq3 hf3 hor3 HD HR hbl
          go_wp2_with fail
          generalize wa.alloc (.cells #[.slice A3 m3 c3, .int .i64 at3] 94) = wb at HF3 HD3 HR3 ⊢
          generalize wa.heap.size = z3 at HF3 ⊢
          go_at_call 49
          refine (rrnumAt R q3 t 8 (.inr rfl) wb HD3.out.rdr HD3.out.le HD3.out.sz).mono ?_
          rintro e wc1 ⟨bl, A4, m4, c4, at4, es4, q4, rfl, rf4, hm4, hr4, hq4, hf4, hor4⟩
          have HF4 := Lib.hid (Flt.fresh (at_ := at4) rf4 hm4)
          have hbl := below_row0 wc1 (.cells #[.slice A4 m4 c4, .int .i64 at4] 94)
          have HG3 := Lib.hid ((HF3.out.fbR HD3.out.rdr hf4).below hbl)
          have HD4 := Lib.hid ((HD3.out.to hr4 hq4 hf4).low hbl)
          have HR4 := Lib.hid ((HR3.out.fbR HD3.out.rdr hf4).low hbl)
          have HO4 := Lib.hid hor4
          clear rf4 hm4 hr4 hq4 hf4 hor4 HD3 HR3 HF3 hbl
          go_wp2_with fail
          generalize wc1.alloc (.cells #[.slice A4 m4 c4, .int .i64 at4] 94) = wd at HF4 HG3 HD4 HR4 ⊢
          generalize wc1.heap.size = z4 at HF4 ⊢
          go_at_call 51
          refine (rrtextAt R q4 t wd HD4.out.rdr HD4.out.le HD4.out.sz).mono ?_
          rintro e we ⟨tl, A5, m5, c5, at5, es5, q5, rfl, rf5, hm5, hr5, hq5, hf5, hor5⟩
          have HF5 := Lib.hid (Flt.fresh (at_ := at5) rf5 hm5)
          have hbl := below_row0 we (.cells #[.slice A5 m5 c5, .int .i64 at5] 94)
          have HH3 := Lib.hid ((HG3.out.fbR HD4.out.rdr hf5).below hbl)
          have HH4 := Lib.hid ((HF4.out.fbR HD4.out.rdr hf5).below hbl)
          have HD5 := Lib.hid ((HD4.out.to hr5 hq5 hf5).low hbl)
          have HR5 := Lib.hid ((HR4.out.fbR HD4.out.rdr hf5).low hbl)
          have HO5 := Lib.hid hor5
          clear rf5 hm5 hr5 hq5 hf5 hor5 HD4 HR4 HF4 HG3 hbl
          go_upto_region 15 with fail
          generalize we.alloc (.cells #[.slice A5 m5 c5, .int .i64 at5] 94) = wf at HF5 HH3 HH4 HD5 HR5 ⊢
          generalize we.heap.size = z5 at HF5 ⊢
          obtain ⟨x0, x1⟩ := HH3.out.cells
          obtain ⟨y0, y1⟩ := HH4.out.cells
          obtain ⟨u0, u1⟩ := HF5.out.cells
          have hw' : Well t p l (n.toNat - i - 1 + 1) q last := by rw [show n.toNat - i - 1 + 1 = n.toNat - i by omega]; exact HW.out
          have HWl := Lib.hid hw'
          clear hw' HW
          go_cut [107] from 75 to 107 (fun s107 wx => ∃ tst, s107 = .bool tst ∧ Dl w R t wx q5 ∧ (tst = true → loadOf s = none) ∧ (tst = false → (RC wx r bl (l ++ [⟨sl, bl, tl⟩]) ∧ Srt 0 (l ++ [⟨sl, bl, tl⟩])) ∧ Well t p (l ++ [⟨sl, bl, tl⟩]) (n.toNat - i - 1) q5 sl))
          case first =>
            have HC3 := Lib.hid (rcode_any A3 m3 c3 es3 at3 wf HH3.out.rf HH3.out.few)
            go_wp2_with fail
            go_at_call 50
            refine HC3.out.mono ?_
            rintro e wg ⟨rfl, hbg⟩
            have HDg := Lib.hid (HD5.out.low hbg)
            have HRg := Lib.hid (HR5.out.low hbg)
            have HHg4 := Lib.hid (HH4.out.below hbg)
            have HFg5 := Lib.hid (HF5.out.below hbg)
            clear hbg HC3 HD5 HR5 HH3 HH4 HF5 x0 x1 y0 y1 u0 u1
            obtain ⟨y0, y1⟩ := HHg4.out.cells
            generalize es3.headD 0 = k3 at HO3 ⊢
            by_cases hk3 : k3 = 0
            case neg =>
              have hd3 : (k3 != 0) = true := by simp [hk3]
              have HN := Lib.hid (show loadOf s = none from by
                rw [HLp.out]
                refine HWl.out.none_ ?_
                unfold voteAt
                rcases HO3.out with ⟨-, h2, -⟩ | ⟨h1, -⟩
                · exact absurd h2 hk3
                · rw [h1])
              go_wp2
              go_meet
              case rel => exact ⟨true, rfl, HDg.out, fun _ => HN.out, fun h => by cases h⟩
            have hd3 : (k3 != 0) = false := by simp [hk3]
            have HN3 := Lib.hid (show numAt t q 2 = some sl ∧ q3 = q + 2 from by
              rcases HO3.out with ⟨h1, -, h3⟩ | ⟨-, -, -, h4⟩
              · exact ⟨h1, h3⟩
              · exact absurd hk3 h4)
            have HC4 := Lib.hid (rcode_any A4 m4 c4 es4 at4 wg HHg4.out.rf HHg4.out.few)
            clear HO3 hk3
            go_wp2_with fail
            go_at_call 50
            refine HC4.out.mono ?_
            rintro e wh ⟨rfl, hbg⟩
            have HDh := Lib.hid (HDg.out.low hbg)
            have HRh := Lib.hid (HRg.out.low hbg)
            have HFh5 := Lib.hid (HFg5.out.below hbg)
            clear hbg HC4 HDg HRg HHg4 HFg5 y0 y1
            obtain ⟨u0, u1⟩ := HFh5.out.cells
            generalize es4.headD 0 = k4 at HO4 ⊢
            by_cases hk4 : k4 = 0
            case neg =>
              have hd4 : (k4 != 0) = true := by simp [hk4]
              have HN := Lib.hid (show loadOf s = none from by
                rw [HLp.out]
                refine HWl.out.none_ ?_
                unfold voteAt
                obtain ⟨g1, g2⟩ := HN3.out
                rw [g1]
                subst g2
                rcases HO4.out with ⟨-, h2, -⟩ | ⟨h1, -⟩
                · exact absurd h2 hk4
                · rw [h1])
              go_wp2
              go_meet
              case rel => exact ⟨true, rfl, HDh.out, fun _ => HN.out, fun h => by cases h⟩
            have hd4 : (k4 != 0) = false := by simp [hk4]
            have HN4 := Lib.hid (show numAt t (q + 2) 8 = some bl ∧ q4 = q + 10 from by
              obtain ⟨-, g2⟩ := HN3.out
              subst g2
              rcases HO4.out with ⟨h1, -, h3⟩ | ⟨-, -, -, h4⟩
              · exact ⟨h1, by omega⟩
              · exact absurd hk4 h4)
            have HC5 := Lib.hid (rcode_any A5 m5 c5 es5 at5 wh HFh5.out.rf HFh5.out.few)
            clear HO4 hk4
            go_wp2_with fail
            go_at_call 50
            refine HC5.out.mono ?_
            rintro e wk ⟨rfl, hbg⟩
            have HDk := Lib.hid (HDh.out.low hbg)
            have HRk := Lib.hid (HRh.out.low hbg)
            clear hbg HC5 HDh HRh HFh5 u0 u1
            generalize es5.headD 0 = k5 at HO5 ⊢
            by_cases hk5 : k5 = 0
            case neg =>
              have hd5 : (k5 != 0) = true := by simp [hk5]
              have HN := Lib.hid (show loadOf s = none from by
                rw [HLp.out]
                refine HWl.out.none_ ?_
                unfold voteAt
                obtain ⟨g1, -⟩ := HN3.out
                obtain ⟨g3, g4⟩ := HN4.out
                rw [g1]
                simp only
                rw [g3]
                subst g4
                rcases HO5.out with ⟨-, h2, -⟩ | ⟨h1, -⟩
                · exact absurd h2 hk5
                · rw [h1])
              go_wp2
              go_meet
              case rel => exact ⟨true, rfl, HDk.out, fun _ => HN.out, fun h => by cases h⟩
            have hd5 : (k5 != 0) = false := by simp [hk5]
            have HV := Lib.hid (show voteAt t q = some ⟨sl, bl, tl⟩ ∧ q5 = q + 12 + tl.size from by
              unfold voteAt
              obtain ⟨g1, -⟩ := HN3.out
              obtain ⟨g3, g4⟩ := HN4.out
              rw [g1]
              simp only
              rw [g3]
              subst g4
              rcases HO5.out with ⟨h1, -, h3⟩ | ⟨-, -, -, h4⟩
              · rw [h1]; exact ⟨rfl, by omega⟩
              · exact absurd hk5 h4)
            clear HO5 hk5 HN3 HN4
            by_cases hsl : sl ≤ last
            case pos =>
              have hd6 : decide (sl ≤ last) = true := decide_eq_true hsl
              have HN := Lib.hid (show loadOf s = none from by
                rw [HLp.out]
                refine HWl.out.not HV.out.1 fun hm => ?_
                have : last < sl := hm.1
                omega)
              go_wp2
              go_meet
              case rel => exact ⟨true, rfl, HDk.out, fun _ => HN.out, fun h => by cases h⟩
            have hd6 : decide (sl ≤ last) = false := decide_eq_false hsl
            by_cases hbp : p < bl
            case pos =>
              have hd7 : decide (p < bl) = true := decide_eq_true hbp
              have HN := Lib.hid (show loadOf s = none from by
                rw [HLp.out]
                refine HWl.out.not HV.out.1 fun hm => ?_
                have : bl ≤ p := hm.2.2.2
                omega)
              go_wp2
              go_meet
              case rel => exact ⟨true, rfl, HDk.out, fun _ => HN.out, fun h => by cases h⟩
            have hd7 : decide (p < bl) = false := decide_eq_false hbp
            have HAc := Lib.hid (raccept_any r ⟨sl, bl, tl⟩ ⟨0, l⟩ wk HRk.out.rc HRk.out.srt)
            have HAE := Lib.hid (show accE ⟨0, l⟩ ⟨sl, bl, tl⟩ = 0 ↔ may p last ⟨sl, bl, tl⟩ from by
              have hv' := voteAt_some HV.out.1
              have hx := (textAt_some hv'.2.2).2.1
              have h0 := (numAt_some hv'.1).2.2.1
              have hw1 := HWl.out.p1
              have h0' : 0 ≤ sl := h0
              rw [accE_zero, wrongE_zero]
              constructor
              · rintro ⟨⟨-, g2, g3, -⟩, -⟩
                exact ⟨by show last < sl; omega, g2, g3.1, by show bl ≤ p; omega⟩
              · rintro ⟨-, g2, g3, g4⟩
                have g3' : 1 ≤ bl := g3
                have g4' : bl ≤ p := g4
                exact ⟨⟨h0, g2, ⟨g3, by show bl ≤ _; omega⟩, hx⟩, by show 0 ≤ bl; omega⟩)
            go_wp2_with fail
            go_at_call 18
            refine HAc.out.mono ?_
            rintro e wl ⟨rfl, g1, g2⟩
            have hlR := HDk.out.lR
            have HDl := Lib.hid (show Dl w R t wl q5 from ⟨hlR, HDk.out.rdr.fb g2 (Ne.symm (HRk.out.rc.fbR HRk.out.nil_ HDk.out.rdr (Fb.same (b := R))).2), HDk.out.le, HDk.out.sz, below_fb HDk.out.below g2 hlr HDk.out.below.size⟩)
            have HG1 := Lib.hid g1
            clear g1 g2 HAc
            by_cases hae : accE ⟨0, l⟩ ⟨sl, bl, tl⟩ = 0
            · have hm := HAE.out.1 hae
              have hac : Acc.accept ⟨0, l⟩ ⟨sl, bl, tl⟩ = ⟨bl, ins ⟨sl, bl, tl⟩ l⟩ := by unfold Acc.accept; rw [if_pos hae]
              obtain ⟨hins, hwm⟩ := HWl.out.more HV.out.1 hm
              have HRl := Lib.hid (show RC wl r bl (l ++ [⟨sl, bl, tl⟩]) from by
                have := HG1.out
                rw [hac, hins] at this; exact this)
              have HSl := Lib.hid (show Srt 0 (l ++ [⟨sl, bl, tl⟩]) from by
                have := ins_srt HRk.out.srt ⟨sl, bl, tl⟩ (numAt_some (voteAt_some HV.out.1).1).2.2.1 hm.2.1
                rw [hins] at this; exact this)
              have HWm := Lib.hid (show Well t p (l ++ [⟨sl, bl, tl⟩]) (n.toNat - i - 1) q5 sl from by
                rw [HV.out.2]; exact hwm)
              generalize accE ⟨0, l⟩ ⟨sl, bl, tl⟩ = k6 at hae ⊢
              subst hae
              clear hm hac hins hwm HG1 HAE
              go_wp2
              go_meet
              case rel => exact ⟨false, rfl, HDl.out, fun h => (by cases h), fun _ => ⟨⟨HRl.out, HSl.out⟩, HWm.out⟩⟩
            · have HN := Lib.hid (show loadOf s = none from by
                rw [HLp.out]
                exact HWl.out.not HV.out.1 fun hm => hae (HAE.out.2 hm))
              generalize accE ⟨0, l⟩ ⟨sl, bl, tl⟩ = k6 at hae ⊢
              have hd8 : (k6 != 0) = true := by simp [hae]
              clear HG1 HAE
              go_wp2
              go_meet
              case rel => exact ⟨true, rfl, HDl.out, fun _ => HN.out, fun h => by cases h⟩
          case rest =>
            obtain ⟨tst, rfl, hd, h1, h2⟩ := hcut
            have HD := Lib.hid hd
            have HT1 := Lib.hid h1
            have HT2 := Lib.hid h2
            clear hd h1 h2 HD5 HF5 HH3 HH4 HR5 x0 x1 y0 y1 u0 u1 HO3 HO4 HO5 HWl
            cases tst with
            | true =>
              go_wp2
              go_ret2
              exact ⟨_, _, rfl, HD.out.below, .inl ⟨HT1.out (by trivial), rfl, rfl⟩⟩
            | false =>
              obtain ⟨⟨hrc, hss⟩, hwm⟩ := HT2.out (by trivial)
              have f0 := hrc.free 0
              obtain ⟨e0, -⟩ := hrc.form
              have HRz := Lib.hid (show Dr r _ (l ++ [⟨sl, bl, tl⟩]) from ⟨hrc.prom 0, fun h => by simp at h, hss⟩)
              have hneR : r ≠ R := (hrc.fbR (fun h => by simp at h) HD.out.rdr (Fb.same (b := R))).2
              have HDz := Lib.hid (show Dl w R t _ q5 from ⟨HD.out.lR, (HD.out.rdr).setOther (p := ⟨r, 0, none⟩) (.int .i64 0) hneR, HD.out.le, HD.out.sz, below_fb HD.out.below (Fb.same.set 0 (.int .i64 0)) hlr HD.out.below.size⟩)
              have HWm := Lib.hid hwm
              clear hrc hss hwm HD HT1 HT2
              go_wp2
              go_roundw
              case rel =>
                refine ⟨i + 1, q5, l ++ [⟨sl, bl, tl⟩], sl, by go_num, rfl, by omega, HDz.out, HRz.out, ?_⟩
                have := HWm.out
                rw [show n.toNat - i - 1 = n.toNat - (i + 1) by omega] at this
                exact this
              case measure => simp only [RowKit.intOf]; omega
        · have hiI : ¬ (i : Int) < n := by omega
          have hie : n.toNat - i = 0 := by omega
          have hend := HW.out
          rw [hie] at hend
          have HE := Lib.hid hend.end_
          have hp1 := hend.p1
          clear hend HW
          go_wp2_with fail
          go_at_call 52
          refine (rrendAt R q t wr HD.out.rdr HD.out.le).mono ?_
          rintro e wa ⟨A3, m3, c3, at3, es3, rfl, rf3, hm3, hb3, hor3⟩
          have HDa := Lib.hid (HD.out.low hb3)
          have HRa := Lib.hid (HR.out.low hb3)
          have HC3 := Lib.hid (rcode_any A3 m3 c3 es3 at3 wa rf3 hm3)
          have HO3 := Lib.hid hor3
          clear rf3 hm3 hb3 hor3 HD HR
          go_wp2_with fail
          go_at_call 50
          refine HC3.out.mono ?_
          rintro e wb ⟨rfl, hb⟩
          have HDb := Lib.hid (HDa.out.low hb)
          have HRb := Lib.hid (HRa.out.low hb)
          clear hb HC3 HDa HRa
          generalize es3.headD 0 = k3 at HO3 ⊢
          by_cases hk3 : k3 = 0
          · have hd3 : (k3 != 0) = false := by simp [hk3]
            have hq : q = t.size := by
              rcases HO3.out with ⟨h, -⟩ | ⟨-, h⟩
              · exact h
              · exact absurd hk3 h
            have HLo := Lib.hid (show loadOf s = some ⟨p, l⟩ from by rw [HLp.out, HE.out, if_pos hq])
            have HG := Lib.hid (show Acc.Good ⟨p, l⟩ from (load_some HLo.out).1)
            have f0 := HRb.out.rc.free 0
            obtain ⟨e0, -⟩ := HRb.out.rc.form
            have HRz := Lib.hid (HRb.out.rc.prom p)
            have HBz := Lib.hid (below_fb HDb.out.below (Fb.same.set (b := r) 0 (.int .i64 p)) hlr HDb.out.below.size)
            clear HO3 HE HLp HDb HRb
            go_wp2
            go_ret2
            exact ⟨_, _, rfl, HBz.out, .inr ⟨⟨p, l⟩, r, HLo.out, rfl, rfl, hlr, ⟨HRz.out, HG.out⟩⟩⟩
          · have hd3 : (k3 != 0) = true := by simp [hk3]
            have HN := Lib.hid (show loadOf s = none from by
              rw [HLp.out, HE.out, if_neg]
              intro h
              rcases HO3.out with ⟨-, h2⟩ | ⟨h1, -⟩
              · exact hk3 h2
              · exact h1 h)
            go_wp2
            go_ret2
            exact ⟨_, _, rfl, HDb.out.below, .inl ⟨HN.out, rfl, rfl⟩⟩
end Go.Proofs.YtacbodojbekeeaaDoor
