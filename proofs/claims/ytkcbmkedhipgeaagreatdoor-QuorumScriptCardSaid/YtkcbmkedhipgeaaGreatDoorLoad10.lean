/-
  read (package ballot), walked.

  Load (package ballot), by a contract.
-/
import Derived.Test.YtkcbmkedhipgeaaGreatDoorReading
import Derived.Deep.LoopGhost
import Derived.Deep.CutBlock
import Derived.Deep.DeepCutAuto
namespace Go.Proofs.YtkcbmkedhipgeaaGreatDoor
open Go.RowKit Go.Lib Go.PlainAid

theorem run_store_func {P : Program} {w : World} {a : Addr} {m : Mode} (f : Fn) (c e : Array Value) : (store a (.func f c e) m).run P w = stored P w a (.func f c e) m := run_store P w a _ m rfl
attribute [local go_sem] run_store_func

/-- What read answers, and leaves. -/
def Outc (t : ByteArray) (w' : World) (a : Nat) (v : Value) : Prop :=
  (∃ A, parse t = some A ∧ v = .nilIface ∧ PC w' a A.p A.l) ∨ (parse t = none ∧ bad v)
/-- At the loop's head. -/
def Head (t : ByteArray) (fv : Value) (p : Int) (l : List V) (n : Nat) (q : Nat) (last : Int) : Prop :=
  (fv = .nilIface ∧ Well t p l n q last) ∨ (bad fv ∧ parse t = none)

set_option maxRecDepth 100000 in
set_option maxHeartbeats 8000000 in
theorem read_any (a R : Nat) (t : ByteArray) (w : World) (hA : PC w a 0 []) (hR : Rdr w R t 0) (hne : a ≠ R) (hg : ErrType w) (hga : 1 < a) (hgR : 1 < R) (hs : t.size ≤ 1000000000) :
    Calls Tryz.prog 53 #[.pointer (some ⟨a, 0, none⟩), .pointer (some ⟨R, 0, none⟩)] w fun e w' => ∃ v, e = .returned v ∧ Outc t w' a v ∧ Fr a (some R) w w' := by
  have hb0 : Below w.heap.size w (((w.alloc (.cells #[.pointer (some ⟨R, 0, none⟩)] 116)).alloc (.cells #[.nilIface] 114)).alloc (.cells #[.func (.func 72) #[] #[.pointer (some ⟨w.heap.size + 1, 0, none⟩)]] 129)) :=
    (((Below.refl _ _).alloc (Nat.le_refl _) _).alloc (by simp) _).alloc (by simp; omega) _
  have HS := Lib.hid (show Rs w a R t (((w.alloc (.cells #[.pointer (some ⟨R, 0, none⟩)] 116)).alloc (.cells #[.nilIface] 114)).alloc (.cells #[.func (.func 72) #[] #[.pointer (some ⟨w.heap.size + 1, 0, none⟩)]] 129)) .nilIface 0 0 [] from
    ⟨hA.lt, hR.lt, hne, hga, hgR, ⟨by rw [World.cell?_alloc_lt _ _ _ (by simp; omega), World.cell?_alloc_lt _ _ _ (by simp)]; simp, by rw [World.cell?_alloc_at _ _ _ _ (by simp)]; rfl⟩, by (unfold EC; rw [Below.heap_alloc _ _ _ (by simp), ← World.size_alloc w (.cells #[.pointer (some ⟨R, 0, none⟩)] 116)]; exact heap_alloc_new _ _), .inl rfl, hR.below hb0, Nat.zero_le _, hs, Fr.of_below hb0, hg.kept (hb0.block _ hg.lt), hA.below hb0, trivial⟩)
  clear hA hR hne hg hga hgR hs hb0
  go_enter Tryz.func53, Tryz.ntmps53
  go_wp2_with fail
  refine (HS.out.number 8 (.inr rfl)).mono ?_
  rintro e w1 ⟨n, fv1, q1, rfl, -, k1, -, -, k4⟩
  have K1 := Lib.hid k1
  have K4 := Lib.hid (k4 rfl)
  have HS2 := Lib.hid (k1.acc (k1.pc.prom n) trivial (Fb.same.set 0 (.int .i64 n)))
  have c0 := k1.pc.c0
  have f0 := k1.pc.free 0
  clear k1 k4 HS
  go_upto_if 23 with fail
  generalize w1.setCell ⟨a, 0, none⟩ (.int .i64 n) = w2 at HS2 ⊢
  clear c0 f0 K1
  go_cut [24] from 23 to 26 (fun s24 wx => ∃ (fv : Value) (q : Nat), Rs w a R t wx fv q n [] ∧ ((fv = .nilIface ∧ numAt t 0 8 = some n ∧ q = 8 ∧ n ≤ 1099511627776) ∨ (bad fv ∧ parse t = none)))
  case first =>
    have c2 : w2.cell? ⟨w.heap.size + 1 + 1, 0, none⟩ = _ := HS2.out.cl.kb
    by_cases hp : 1099511627776 < n
    · have HK := Lib.hid (HS2.out.keep (.iface 44 (.int .i64 30)) (.inr (bad_iface _ _)))
      go_wp2_with fail
      go_at_call 72
      refine HK.out.mono ?_
      rintro e w3 ⟨rfl, fv', k1, -, k3, k4⟩
      have K1' := Lib.hid k1
      have K2' := Lib.hid (show bad fv' from by
        rcases K4.out with ⟨-, e, -⟩ | ⟨-, h⟩
        · rw [k4 e]; exact bad_iface _ _
        · exact k3 h)
      have K3' := Lib.hid (show parse t = none from by
        unfold parse
        rcases K4.out with ⟨e, -, -⟩ | ⟨e, -⟩
        · rw [e]; simp only; rw [if_neg (by omega)]
        · rw [e])
      clear k1 k3 k4
      go_wp2
      go_meet
      case rel => exact ⟨fv', q1, K1'.out, .inr ⟨K2'.out, K3'.out⟩⟩
    · go_wp2
      go_meet
      case rel =>
        refine ⟨fv1, q1, HS2.out, ?_⟩
        rcases K4.out with ⟨e1, e2, e3⟩ | ⟨e, h⟩
        · exact .inl ⟨e2, e1, by omega, by omega⟩
        · exact .inr ⟨h, by unfold parse; rw [e]⟩
  case rest =>
    obtain ⟨fv, q, hrs, hor⟩ := hcut
    have HS3 := Lib.hid hrs
    have HO3 := Lib.hid hor
    clear hrs hor HS2 K4
    go_wp2_with fail
    refine (HS3.out.number 2 (.inl rfl)).mono ?_
    rintro e w4 ⟨m, fv', q', rfl, hm63, k1, -, k3, k4⟩
    have HH := Lib.hid (show Head t fv' n [] m.toNat q' (-1) from by
      rcases HO3.out with ⟨e, h1, rfl, hn⟩ | ⟨hb, hp⟩
      · rcases k4 e with ⟨g1, g2, rfl⟩ | ⟨g1, g2⟩
        · refine .inl ⟨g2, ⟨hn, by omega, by omega, fun y hy => (by cases hy), ?_⟩⟩
          unfold parse
          rw [h1]
          simp only
          rw [if_pos hn, g1]
          simp only [List.nil_append]
        · refine .inr ⟨g2, ?_⟩
          unfold parse
          rw [h1]
          simp only
          rw [if_pos hn, g1]
      · exact .inr ⟨k3 hb, hp⟩)
    have HS4 := Lib.hid k1
    clear k1 k3 k4 HS3 HO3
    go_wp2
    go_loopw [9, 29] (fun lv iv wr => ∃ (i : Nat) (fv : Value) (q : Nat) (p : Int) (l : List V) (last : Int), iv = .int .i64 i ∧ lv = .int .i64 (last + 1) ∧ i ≤ m.toNat ∧ -1 ≤ last ∧ last < 4096 ∧ Rs w a R t wr fv q p l ∧ Head t fv p l (m.toNat - i) q last) (fun _ iv _ => m.toNat - (RowKit.intOf iv).toNat)
    case atStart => exact ⟨0, fv', q', n, [], -1, rfl, rfl, Nat.zero_le _, by omega, by omega, HS4.out, HH.out⟩
    case round =>
      obtain ⟨i, fv, q, p, l, last, rfl, rfl, hi, hl0, hl1, hrs, hhd⟩ := hrel
      have HS := Lib.hid hrs
      have HD := Lib.hid hhd
      clear hrs hhd HS4 HH
      by_cases hlt : i < m.toNat
      · have hiI : (i : Int) < m := by omega
        have hi0 : (0 : Int) ≤ (i : Int) := by omega
        go_wp2_with fail
        refine (HS.out.number 2 (.inl rfl)).mono ?_
        rintro e w5 ⟨s, fv5, q5, rfl, -, k1, -, k3, k4⟩
        have HS5 := Lib.hid k1
        have HA5 := Lib.hid k3
        have HB5 := Lib.hid k4
        clear k1 k3 k4 HS
        go_wp2_with fail
        refine (HS5.out.number 8 (.inr rfl)).mono ?_
        rintro e w6 ⟨b, fv6, q6, rfl, -, k1, -, k3, k4⟩
        have HS6 := Lib.hid k1
        have HA6 := Lib.hid k3
        have HB6 := Lib.hid k4
        clear k1 k3 k4 HS5
        go_wp2_with fail
        refine HS6.out.text.mono ?_
        rintro e w7 ⟨x, fv7, q7, rfl, k1, -, k3, k4⟩
        have HS7 := Lib.hid k1
        have HA7 := Lib.hid k3
        have HB7 := Lib.hid k4
        clear k1 k3 k4 HS6
        have HTr := Lib.hid (show (fv7 = .nilIface ∧ Well t p l (m.toNat - i) q last ∧ voteAt t q = some ⟨s, b, x⟩ ∧ q7 = q + 12 + x.size) ∨ (bad fv7 ∧ parse t = none) from by
          rcases HD.out with ⟨e, hw⟩ | ⟨hb, hp⟩
          · rcases three (HB5.out e) HA6.out HB6.out HA7.out HB7.out with ⟨g1, g2, g3⟩ | ⟨g1, g2⟩
            · exact .inl ⟨g2, hw, g1, g3⟩
            · have hw' : Well t p l (m.toNat - i - 1 + 1) q last := by rw [show m.toNat - i - 1 + 1 = m.toNat - i by omega]; exact hw
              exact .inr ⟨g2, hw'.none_ g1⟩
          · exact .inr ⟨HA7.out (HA6.out (HA5.out hb)), hp⟩)
        have hb8 : Below w7.heap.size w7 (w7.alloc (.cells (V.cells ⟨s, b, x⟩) 75)) := (Below.refl _ _).alloc (Nat.le_refl _) _
        have HS8 := Lib.hid (HS7.out.low hb8)
        have HV8 := Lib.hid (AV.fresh 75 w7 ⟨s, b, x⟩)
        clear HD HA5 HB5 HA6 HB6 HA7 HB7 HS7 hb8
        go_upto_region 12 with fail
        generalize w7.alloc (.cells (V.cells ⟨s, b, x⟩) 75) = w8 at HS8 HV8 ⊢
        generalize w7.heap.size = z at HV8 ⊢
        obtain ⟨tst, htst⟩ : ∃ tst, tst = (decide (s < last + 1) || (decide (p < b) || decide (wrongE ⟨s, b, x⟩ ≠ 0))) := ⟨_, rfl⟩
        have HTst := Lib.hid htst
        clear htst
        go_cut [55] from 38 to 55 (fun s55 wx => s55 = .bool tst ∧ Rs w a R t wx fv7 q7 p l ∧ AV 75 wx z ⟨s, b, x⟩)
        case first =>
          obtain ⟨d0, d1, d2⟩ := HV8.out.all
          have c0 := HS8.out.pc.c0
          by_cases h1 : s < last + 1
          · have hd : decide (s < last + 1) = true := decide_eq_true h1
            have ht := HTst.out
            rw [hd, Bool.true_or] at ht
            subst ht
            go_quiet (fail)
            go_wp2
            go_meet
            case rel => exact ⟨rfl, HS8.out.low (below_drewN (Below.refl _ _) _), HV8.out⟩
          · have hd : decide (s < last + 1) = false := decide_eq_false h1
            by_cases h2 : p < b
            · have hd2 : decide (p < b) = true := decide_eq_true h2
              have ht := HTst.out
              rw [hd, hd2, Bool.true_or, Bool.or_true] at ht
              subst ht
              go_quiet (fail)
              go_wp2
              go_meet
              case rel => exact ⟨rfl, HS8.out.low (below_drewN (Below.refl _ _) _), HV8.out⟩
            · have hd2 : decide (p < b) = false := decide_eq_false h2
              have ht := HTst.out
              rw [hd, hd2, Bool.false_or, Bool.false_or] at ht
              have HW := Lib.hid (wrong_any ⟨s, b, x⟩)
              generalize wrongE ⟨s, b, x⟩ = r at HW ht
              have hr : (r != 0) = tst := by rw [ht]; by_cases h0 : r = 0 <;> simp [h0]
              clear ht
              go_region_held3 (fun w' => w'.cell? ⟨z, 0, none⟩ = some (.int .i64 s) ∧ w'.cell? ⟨z, 1, none⟩ = some (.int .i64 b) ∧ w'.cell? ⟨z, 2, none⟩ = some (.string x) ∧ w'.cell? ⟨a, 0, none⟩ = some (.int .i64 p))
                (first | exact ⟨d0, d1, d2, c0⟩ | exact ⟨k0, k1, k2, k3⟩ | fail)
                (first
                  | (go_at_call 77; refine (HW.out _).mono ?_; rintro e wa ⟨rfl, hb⟩; have KS := Lib.hid (HS8.out.low ⟨hb.os, hb.tape, hb.output, hb.size, hb.block⟩); have KV := Lib.hid (HV8.out.below ⟨hb.os, hb.tape, hb.output, hb.size, hb.block⟩); obtain ⟨k0, k1, k2⟩ := KV.out.all; have k3 := KS.out.pc.c0; clear hb)
                  | fail)
              all_goals
                go_wp2
                go_meet
                case rel => exact ⟨rfl, KS.out, KV.out⟩
        case rest =>
          obtain ⟨rfl, hrs, hav⟩ := hcut
          have HS9 := Lib.hid hrs
          have HV9 := Lib.hid hav
          clear hrs hav HS8 HV8
          have cF := HS9.out.ec.cell
          have cK : wc.cell? ⟨w.heap.size + 1 + 1, 0, none⟩ = _ := HS9.out.cl.kb
          cases tst with
          | true =>
            have HN := Lib.hid (show parse t = none from by
              rcases HTr.out with ⟨-, hw, hv, -⟩ | ⟨-, h⟩
              · have hw' : Well t p l (m.toNat - i - 1 + 1) q last := by rw [show m.toNat - i - 1 + 1 = m.toNat - i by omega]; exact hw
                refine hw'.not hv fun hm => ?_
                obtain ⟨g1, g2, g3, g4⟩ := hm
                have hv' := voteAt_some hv
                have hx := (textAt_some hv'.2.2).2.1
                have h0 := (numAt_some hv'.1).2.2.1
                have hw1 := hw.p1
                have g1' : last < s := g1
                have g4' : b ≤ p := g4
                have hwr : wrongE ⟨s, b, x⟩ = 0 := wrongE_zero.2 ⟨h0, g2, ⟨g3, by show b ≤ _; omega⟩, hx⟩
                have ht := HTst.out
                rw [decide_eq_false (show ¬ s < last + 1 by omega), decide_eq_false (show ¬ p < b by omega), hwr] at ht
                simp at ht
              · exact h)
            have HK := Lib.hid (HS9.out.keep (.iface 44 (.int .i64 30)) (.inr (bad_iface _ _)))
            have HBd := Lib.hid (HS9.out.ise)
            go_wp2_with fail
            go_at_call 72
            refine HK.out.mono ?_
            rintro e wd ⟨rfl, fv', k1, -, k3, k4⟩
            have hbad : bad fv' := by
              rcases HBd.out with h | h
              · rw [k4 h]; exact bad_iface _ _
              · exact k3 h
            obtain ⟨ty, y, rfl⟩ := hbad
            have cF' := k1.ec.cell
            have HSd := Lib.hid k1
            clear k1 k3 k4 cF cK
            go_wp2
            go_ret
            exact ⟨_, rfl, .inr ⟨HN.out, bad_iface _ _⟩, HSd.out.fr⟩
          | false =>
            rcases HTr.out with ⟨rfl, hw, hv, hq⟩ | ⟨⟨ty, y, rfl⟩, hpn⟩
            · have hw' : Well t p l (m.toNat - i - 1 + 1) q last := by rw [show m.toNat - i - 1 + 1 = m.toNat - i by omega]; exact hw
              have hm : may p last ⟨s, b, x⟩ ∧ 0 ≤ s ∧ s < 4096 ∧ x.size ≤ 1024 := by
                have ht := HTst.out.symm
                simp only [Bool.or_eq_false_iff, decide_eq_false_iff_not, Classical.not_not] at ht
                obtain ⟨t1, t2, t3⟩ := ht
                obtain ⟨g1, g2, g3, g4⟩ := wrongE_zero.1 t3
                exact ⟨⟨by show last < s; omega, g2, g3.1, by show b ≤ p; omega⟩, g1, g2, g4⟩
              obtain ⟨hins, hwell⟩ := hw'.more hv hm.1
              have HWell := Lib.hid hwell
              have HIns := Lib.hid hins
              obtain ⟨-, hs0, hs1, hxs⟩ := hm
              have hlt' : i < m.toNat := hlt
              have hs0' : 0 ≤ s := hs0
              have HVo := Lib.hid (vote_any a p l ⟨s, b, x⟩ wc HS9.out.pc HS9.out.srt hs0 hs1 (by show x.size ≤ _; omega))
              obtain ⟨e0, e1, e2⟩ := HV9.out.all
              have hza : z ≠ a := by
                obtain ⟨f, c, hf, -⟩ := HS9.out.pc.row
                exact type_ne HV9.out hf (by decide)
              have hzl := HV9.out.lt
              clear hw hv hw' hins hwell HTr
              go_wp2_with fail
              go_at_call 78
              refine HVo.out.mono ?_
              rintro e wd ⟨rfl, k1, k2⟩
              rw [HIns.out] at k1
              have hss : Srt 0 (l ++ [⟨s, b, x⟩]) := by
                have := ins_srt HS9.out.srt ⟨s, b, x⟩ hs0 hs1
                rw [HIns.out] at this; exact this
              have HSd := Lib.hid (HS9.out.acc k1 hss k2)
              obtain ⟨g0, g1, g2⟩ := (HV9.out.of_block (k2.block z hzl hza (by simp))).all
              clear k1 k2 e0 e1 e2 hss
              go_wp2
              go_roundw
              case rel =>
                refine ⟨i + 1, .nilIface, q7, p, l ++ [⟨s, b, x⟩], s, by go_num, by go_num, by omega, by omega, hs1, HSd.out, .inl ⟨rfl, ?_⟩⟩
                have := HWell.out
                rw [show m.toNat - i - 1 = m.toNat - (i + 1) by omega] at this
                rw [hq]; exact this
              case measure => simp only [RowKit.intOf]; omega
            · have HN := Lib.hid hpn
              clear hpn HTr
              go_wp2
              go_ret
              exact ⟨_, rfl, .inr ⟨HN.out, bad_iface _ _⟩, HS9.out.fr⟩
      · have hiI : ¬ (i : Int) < m := by omega
        have hie : m.toNat - i = 0 := by omega
        rw [hie] at HD
        have cR := HS.out.cl.rb
        have cK : wr.cell? ⟨w.heap.size + 1 + 1, 0, none⟩ = _ := HS.out.cl.kb
        go_wp2_with fail
        go_region_held3 (fun w' => w'.cell? ⟨w.heap.size, 0, none⟩ = some (.pointer (some ⟨R, 0, none⟩)) ∧ w'.cell? ⟨w.heap.size + 1 + 1, 0, none⟩ = some (.func (.func 72) #[] #[.pointer (some ⟨w.heap.size + 1, 0, none⟩)]))
          (first | exact ⟨cR, cK⟩ | exact ⟨k0, k1⟩ | exact ⟨j0, j1⟩ | fail)
          (first
            | (go_at_call 79; (with_reducible refine (rendAt R q t _ (HS.out.rdr.below ?hw) HS.out.le HS.out.sz).mono ?_); (case hw => exact (Below.refl _ _).drew); rintro e wa ⟨v, rfl, hb, hor⟩; have KS := Lib.hid (HS.out.low ⟨hb.os, hb.tape, hb.output, hb.size, hb.block⟩); have HOr := Lib.hid hor; have k0 := KS.out.cl.rb; (have k1 : wa.cell? ⟨w.heap.size + 1 + 1, 0, none⟩ = _ := KS.out.cl.kb); clear hb hor)
            | (go_at_call 72; refine (KS.out.keep v (HOr.out.elim (fun h => .inl h.2) (fun h => .inr h.2))).mono ?_; rintro e wb ⟨rfl, fv', k1, -, k3, k4⟩; have KS2 := Lib.hid k1; have KA := Lib.hid k3; have KB := Lib.hid k4; have j0 := KS2.out.cl.rb; (have j1 : wb.cell? ⟨w.heap.size + 1 + 1, 0, none⟩ = _ := KS2.out.cl.kb); clear k1 k3 k4)
            | fail)
        have HOut := Lib.hid (show Outc t wb a fv' from by
          rcases HD.out with ⟨e, hw⟩ | ⟨hb, hp⟩
          · rw [KB.out e]
            have he := hw.end_
            rcases HOr.out with ⟨hq, hv⟩ | ⟨hq, hv⟩
            · rw [if_pos hq] at he
              exact .inl ⟨_, he, hv, KS2.out.pc⟩
            · rw [if_neg hq] at he
              exact .inr ⟨he, hv⟩
          · exact .inr ⟨hp, KA.out hb⟩)
        have cF := KS2.out.ec.cell
        have hIE := KS2.out.ise
        clear j0 j1 cR cK HD HS HOr KS KA KB
        rcases hIE with rfl | ⟨ty, y, rfl⟩
        · go_wp2
          go_ret
          exact ⟨_, rfl, HOut.out, KS2.out.fr⟩
        · go_wp2
          go_ret
          exact ⟨_, rfl, HOut.out, KS2.out.fr⟩
end Go.Proofs.YtkcbmkedhipgeaaGreatDoor

namespace Go.Proofs.YtkcbmkedhipgeaaGreatDoor
open Go.RowKit Go.Lib Go.PlainAid

theorem openOf_size (s : ByteArray) : (openOf s).1.size ≤ s.size := by
  unfold openOf
  split
  · simp only [ByteArray.size_extract]; omega
  · exact Nat.zero_le _
set_option maxRecDepth 100000 in
theorem load_any (s : ByteArray) (w : World) (hT : Tab w) (hE : ErrType w) (hs : s.size ≤ 1000000000) :
    Calls Tryz.prog 34 #[.string s] w fun e w' => ∃ v k, e = .returned (.tuple #[v, .int .i64 k]) ∧ Below w.heap.size w w' ∧
      ((loadOf s = none ∧ v = .pointer none ∧ k = 30) ∨ ∃ A a, loadOf s = some A ∧ v = .pointer (some ⟨a, 0, none⟩) ∧ k = 0 ∧ w.heap.size ≤ a ∧ PA w' a A) := by
  have HO := Lib.hid (open_any s w hT (by omega))
  have hgl := hE.lt
  have HE := Lib.hid hE
  have HSz := Lib.hid (show (openOf s).1.size ≤ 1000000000 from Nat.le_trans (openOf_size s) hs)
  have HL := Lib.hid (show loadOf s = if (openOf s).2 = true then parse (openOf s).1 else none from rfl)
  clear hT hE
  obtain ⟨t, ok⟩ : ∃ t ok, openOf s = (t, ok) := ⟨_, _, rfl⟩
  obtain ⟨ok, hok⟩ := ok
  rw [hok] at HO HSz HL
  clear hok
  cases ok with
  | false =>
    go_enter Tryz.func34, Tryz.ntmps34
    go_wp2_with (go_at_call 52; refine HO.out.mono ?_; rintro e w' ⟨rfl, hb⟩; have HB := Lib.hid hb; clear hb)
    go_ret2
    exact ⟨_, _, rfl, HB.out, .inl ⟨by rw [HL.out]; rfl, rfl, rfl⟩⟩
  | true =>
    have hL : loadOf s = parse t := HL.out
    rw [hL]
    clear hL HL
    go_enter Tryz.func34, Tryz.ntmps34
    go_wp2_with fail
    go_at_call 52
    refine HO.out.mono ?_
    rintro e w1 ⟨rfl, hb1⟩
    have HB1 := Lib.hid hb1
    clear hb1 HO
    go_wp2_with fail
    go_at_call 24
    refine (new_any w1).mono ?_
    rintro e w2 ⟨rfl, hp2, hb2, hz2⟩
    have HP2 := Lib.hid hp2.pc
    have HB2 := Lib.hid (HB1.out.trans (hb2.mono HB1.out.size))
    have hz1 := HB1.out.size
    clear hp2 hb2 HB1
    generalize w1.heap.size = a at HP2 hz2 hz1 ⊢
    go_wp2_with fail
    go_at_call 54
    refine (newReader t w2).mono ?_
    rintro e w3 ⟨rfl, hr3, hb3, hz3⟩
    have HP3 := Lib.hid (HP2.out.below hb3)
    have HB3 := Lib.hid (HB2.out.trans (hb3.mono HB2.out.size))
    have HR3 := Lib.hid hr3
    have HE3 := Lib.hid (HE.out.kept ((HB2.out.trans (hb3.mono HB2.out.size)).block _ hgl))
    clear hr3 hb3 HP2 HB2
    generalize w2.heap.size = R at HR3 hz2 hz3 ⊢
    go_wp2_with fail
    go_at_call 53
    refine (read_any a R t w3 HP3.out HR3.out (by omega) HE3.out (by omega) (by omega) HSz.out).mono ?_
    rintro e w4 ⟨v, rfl, ho, hf⟩
    have HB4 := Lib.hid (show Below w.heap.size w w4 from HB3.out.trans ⟨hf.os, hf.tape, hf.output, hf.size, fun k hk => hf.block k (by have := HB3.out.size; omega) (by omega) (by simp; omega)⟩)
    clear hf
    rcases ho with ⟨A, hp, rfl, hA⟩ | ⟨hp, ty, x, rfl⟩
    · have HA := Lib.hid (show PA w4 a A from ⟨hA, (parse_some hp).1⟩)
      have HPa := Lib.hid hp
      clear hA hp
      go_wp2
      go_ret2
      exact ⟨_, _, rfl, HB4.out, .inr ⟨A, a, HPa.out, rfl, rfl, hz1, HA.out⟩⟩
    · have HPa := Lib.hid hp
      clear hp
      go_wp2
      go_ret2
      exact ⟨_, _, rfl, HB4.out, .inl ⟨HPa.out, rfl, rfl⟩⟩
end Go.Proofs.YtkcbmkedhipgeaaGreatDoor
