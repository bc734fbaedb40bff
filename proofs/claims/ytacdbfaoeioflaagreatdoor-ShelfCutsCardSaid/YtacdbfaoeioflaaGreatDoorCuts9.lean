/-
  ShelfCuts, walked: it answers true, and nothing that was there turns.
-/
import Derived.Test.YtacdbfaoeioflaaGreatDoorPlate9
import Derived.BigQuiet
namespace Go.Proofs.YtacdbfaoeioflaaGreatDoor
open Go.RowKit Go.PlainAid

theorem get_of {L : Lay} {id : Int} {b : Bk} (h : getL L id = some b) : getB L id = b ∧ getE L id = 0 := by unfold getB getE; rw [h]; exact ⟨rfl, rfl⟩
theorem list_put_le {L : Lay} (hG : GoodL L) {b : Bk} (hb : refE b 1 = 0) (hl : low L < L.length) : (listL (putL L (low L) b)).length ≤ (listL L).length + 1 := by
  rw [list_length (hG.put hl hb), list_length hG, cnt_put hG (low_free hl) b]
  cases (getL L b.id).isSome <;> simp
/-- What the first condition asks. -/
structure After (L L3 : Lay) (b : Bk) (f : Int) : Prop where
  one : (getB L3 b.id = b ∧ getE L3 b.id = 0) ∨ (f ≠ 0 ∧ getB L3 b.id = getB L b.id ∧ getE L3 b.id = getE L b.id)
  all : ∀ i q, At L i q → q.id ≠ b.id → getB L3 q.id = q ∧ getE L3 q.id = 0
  len : (listL L3).length ≤ (listL L).length + 1
theorem after_of {L L3 : Lay} {b : Bk} {f : Int} (hG : GoodL L) (h2 : (L3 = L ∧ f ≠ 0) ∨ (L3 = putL L (low L) b ∧ refE b 1 = 0 ∧ low L < L.length)) : After L L3 b f := by
  rcases h2 with ⟨rfl, hf⟩ | ⟨rfl, hb, hl⟩
  · exact ⟨.inr ⟨hf, rfl, rfl⟩, fun i q hq _ => get_of (getL_at hG hq), by omega⟩
  · have hp := fun id => getL_put hG (low_free hl) hb id
    refine ⟨.inl (get_of (by rw [hp, if_pos rfl])), fun i q hq hne => get_of (by rw [hp, if_neg hne]; exact getL_at hG hq), list_put_le hG hb hl⟩
set_option maxRecDepth 100000 in
set_option maxHeartbeats 8000000 in
theorem cuts_in (m : Nat) (A : Option Addr) (n c : Nat) (bs : Nat → Bk) (b : Bk) (at_ : Int) (keep : Nat) (w : World) (hT : Tab w) (hm : m < 256) (hS : BIn w A n bs) (hn : n ≤ 60) (hd : b.data.size ≤ 100) (hid : i64 b.id) (hat : at_ < 9223372036854775808) (hkp : keep < 18446744073709551616) :
    Calls Tryz.prog 4 #[.int .u8 m, .slice A n c, b.val, .int .i64 at_, .int .u64 keep] w fun e w' => e = .returned (.bool true) ∧ Below w.heap.size w w' := by
  have hba : Below w.heap.size w (w.alloc (.cells b.cells 37)) := (Below.refl _ _).alloc (Nat.le_refl _) _
  have BA := Lib.hid hba
  have A0 := Lib.hid (AB.fresh w b)
  have HB := Lib.hid hS
  have HT := Lib.hid hT
  have Hid := Lib.hid hid
  have HSh := Lib.hid (fun w (T : Tab w) => shown_any (w := w) T)
  have T0 := Lib.hid (hT.below hba)
  have hnI : ¬ (60 : Int) < (n : Int) := by omega
  have hdI : ¬ (100 : Int) < (b.data.size : Int) := by omega
  have hm8 : IntKind.i64.wrap (m : Int) = (m : Int) := IntWalk.i64_in _ (by omega)
  clear hS hT hba hd hid
  obtain ⟨d0, d1, d2⟩ := A0.out.all
  go_enter Tryz.func4, Tryz.ntmps4
  go_wp2_with fail
  generalize w.alloc (.cells #[.int .i64 b.id, .int .i64 b.ver, .string b.data] 37) = w1 at *
  go_at_call 8
  refine (HSh.out w1 T0.out).mono ?_
  rintro e w2 ⟨rfl, k1⟩
  have B2 := Lib.hid (BA.out.trans (k1.mono BA.out.size))
  have A2 := Lib.hid (A0.out.below k1)
  clear k1 BA A0 T0 d0 d1 d2
  go_wp2_with fail
  go_at_call 9
  refine (plo_new (w0 := w) (O := fun k => k = w.heap.size) B2.out _ (fun k hk => by have := A2.out.lt; omega)).mono ?_
  rintro e w3 ⟨pb, rfl, k1, k2⟩
  have P3 := Lib.hid k1
  have A3 := Lib.hid (A2.out.keptO k2 rfl)
  clear k1 k2 A2 B2
  generalize 4 + (m : Int) % 12 = q at P3 ⊢
  go_wp2_with fail
  go_at_call 11
  refine (plo_open P3.out HT.out (Good.fresh q) rfl (n := size0 q) (by simp [fresh])).mono ?_
  rintro e w4 ⟨sb, mb, rfl, k1, k2⟩
  have h10 : Sound (fresh q) (List.replicate (size0 q) none) (size0 q) 0 := Sound.fresh q
  obtain ⟨o1, o2⟩ := h10.opens
  rw [o1, o2] at k1
  have S4 := Lib.hid k1
  have D4 := Lib.hid h10
  have A4 := Lib.hid (A3.out.keptO k2 rfl)
  generalize size0 q = N at S4 D4
  clear k1 k2 o1 o2 h10 P3 A3
  go_wp2
  go_loopw [14] (fun iv wr => ∃ (i : Nat) (s : St) (L : Lay) (k : Nat), i ≤ n ∧ iv = .int .i64 i ∧ Sound s L N k ∧ k ≤ 4 * i ∧ Solo w wr sb mb pb s L [] false (fun k => k = w.heap.size) ∧ AB wr w.heap.size b) (fun iv _ => n - (RowKit.intOf iv).toNat)
  case atStart => exact ⟨0, _, _, 0, Nat.zero_le _, rfl, D4.out, Nat.zero_le _, S4.out, A4.out⟩
  case round =>
    obtain ⟨i, s, L, k, hi, rfl, hD, hk, hS, hA⟩ := hrel
    have HD := Lib.hid hD
    have HS := Lib.hid hS
    have HA := Lib.hid hA
    clear hD hS hA S4 D4 A4
    by_cases hlt : i < n
    · obtain ⟨g, off, rfl, hc⟩ := HB.out.cells HS.out.bel hlt
      have hidx := Lib.hid (HB.out.id i hlt)
      obtain ⟨x, hx⟩ : ∃ x, bs i = x := ⟨_, rfl⟩
      rw [hx] at hidx hc
      have hlI : (i : Int) < (n : Int) := by omega
      have hiI : (0 : Int) ≤ (i : Int) := by omega
      clear hx HB
      obtain ⟨q0, q1, q2⟩ := hc
      by_cases hd : 100 < x.data.size
      · have hdI : (100 : Int) < (x.data.size : Int) := by omega
        clear hd
        go_wp2_with fail
        go_at_call 8
        refine (HSh.out _ (HS.out.tab HT.out)).mono ?_
        rintro e w5 ⟨rfl, k1⟩
        have B5 := Lib.hid (HS.out.bel.trans (k1.mono HS.out.bel.size))
        clear k1
        go_wp2
        go_ret
        exact ⟨rfl, B5.out⟩
      · have hdI : ¬ (100 : Int) < (x.data.size : Int) := by omega
        clear hd HSh
        go_wp2_with fail
        go_at_call 13
        refine Calls.mono (show Calls Tryz.prog 13 #[.pointer (some ⟨sb, 0, none⟩), .agg #[.int .i64 x.id, .int .i64 x.ver, .string x.data]] wr _ from so_put HS.out HT.out HD.out.rest (by omega) (fun h => by cases h) HD.out.len hidx.out) ?_
        rintro e w5 ⟨rfl, k1, k2⟩
        have hnl : lostP false (putE L s x) = false := by unfold lostP; rw [decide_eq_false (put_e HD.out x)]; rfl
        rw [hnl] at k1
        have S5 := Lib.hid k1
        have A5 := Lib.hid (HA.out.keptO k2 rfl)
        have D5 := Lib.hid (HD.out.put x)
        generalize putE L s x = pe
        clear k1 k2 hnl q0 q1 q2 HS HA HD
        go_wp2
        go_roundw
        case rel => exact ⟨i + 1, _, _, k + 4, by omega, by go_num, D5.out, by omega, S5.out, A5.out⟩
        case measure => simp only [RowKit.intOf]; omega
    · obtain rfl : i = n := by omega
      have hlI : ¬ ((i : Int) < (i : Int)) := by omega
      clear HSh HB
      go_wp2_with fail
      go_at_call 30
      refine (so_list HS.out).mono ?_
      rintro e w6 ⟨v6, rfl, k1, k2⟩
      have V6 := Lib.hid k1
      have A6 := Lib.hid (HA.out.below k2)
      have BR6 := Lib.hid k2
      have S6 := Lib.hid (HS.out.below k2).1
      clear k1 k2
      obtain ⟨d0, d1, d2⟩ := A6.out.all
      go_wp2_with fail
      go_at_call 27
      refine (so_get S6.out Hid.out).mono ?_
      rintro e w7 ⟨rfl, k1⟩
      obtain ⟨old, hold⟩ : ∃ x, getB L b.id = x := ⟨_, rfl⟩
      obtain ⟨had, hhad⟩ : ∃ x, getE L b.id = x := ⟨_, rfl⟩
      rw [hold, hhad]
      have HOl := Lib.hid hold
      have HHa := Lib.hid hhad
      have kx : Below w7.heap.size w7 (w7.alloc (.cells old.cells 37)) := (Below.refl _ _).alloc (Nat.le_refl _) _
      have ky := k1.trans (kx.mono k1.size)
      have BR8 := Lib.hid (BR6.out.trans (ky.mono BR6.out.size))
      have X8 := Lib.hid (AB.fresh w7 old)
      have A8 := Lib.hid (A6.out.below ky)
      have V8 := Lib.hid (OwnsB.below ky V6.out)
      have S8 := Lib.hid (HS.out.news BR8.out)
      have HW := Lib.hid (show wr.heap.size ≤ w7.heap.size from Nat.le_trans BR6.out.size k1.size)
      clear k1 kx ky d0 d1 d2 V6 A6 BR6 S6 hold hhad
      go_wp2_with fail
      generalize w7.alloc (.cells #[.int .i64 old.id, .int .i64 old.ver, .string old.data] 37) = w8 at *
      have hX8 := X8.out.lt
      go_at_call 15
      refine (so_cut S8.out hat hkp).mono ?_
      rintro e w9 ⟨rfl, k1, k2⟩
      have S9 := Lib.hid k1
      have A9 := Lib.hid (A8.out.keptO k2 (.inl rfl))
      have X9 := Lib.hid (X8.out.keptO k2 (.inr ⟨HW.out, hX8⟩))
      have V9 := Lib.hid (V8.out.kept fun g' hg => k2 g' (.inr ⟨(V8.out.lt hg).1, (V8.out.lt hg).2⟩))
      have HVl := Lib.hid (fun g' (hg : v6.ownBlock = some g') => V8.out.lt hg)
      have R9 := Lib.hid (HD.out.rest.cut hat hkp)
      have HC := Lib.hid (cuts_out HD.out hat hkp b)
      have HG := Lib.hid HD.out.fit.good
      have hLl := HD.out.len
      clear k1 k2 S8 A8 X8 V8 BR8 HD HS HA
      generalize cut s at_ keep = s9 at S9 R9 HC
      obtain ⟨d0, d1, d2⟩ := A9.out.all
      go_wp2_with fail
      go_at_call 13
      refine Calls.mono (show Calls Tryz.prog 13 #[.pointer (some ⟨sb, 0, none⟩), .agg #[.int .i64 b.id, .int .i64 b.ver, .string b.data]] w9 _ from so_put S9.out HT.out R9.out (by omega) (fun h => by cases h) hLl Hid.out) ?_
      rintro e w10 ⟨rfl, k1, k2⟩
      have S10 := Lib.hid k1
      have A10 := Lib.hid (A9.out.keptO k2 (.inl rfl))
      have X10 := Lib.hid (X9.out.keptO k2 (.inr ⟨HW.out, hX8⟩))
      have V10 := Lib.hid (V9.out.kept fun g' hg => k2 g' (.inr (HVl.out g' hg)))
      have R10 := Lib.hid (R9.out.put hLl b)
      obtain ⟨L3, h3, h3l, h3c⟩ := HC.out
      have H3 := Lib.hid h3
      have H3l := Lib.hid h3l
      have HAf := Lib.hid (after_of HG.out h3c)
      clear k1 k2 d0 d1 d2 S9 A9 X9 V9 R9 HC h3 h3l h3c
      generalize putE L s9 b = pe at S10 HAf ⊢
      generalize putS L s9 b = s10 at S10 R10 H3
      generalize putY L s9 b = L10 at S10
      generalize lostP false pe = l10 at S10
      go_wp2_with fail
      go_at_call 23
      refine (so_crash S10.out R10.out.good (by rw [R10.out.wait]; exact Nat.zero_le _) hkp).mono ?_
      rintro e w11 ⟨rfl, k1, k2⟩
      have S11 := Lib.hid k1
      have A11 := Lib.hid (A10.out.keptO k2 (.inl rfl))
      have X11 := Lib.hid (X10.out.keptO k2 (.inr ⟨HW.out, hX8⟩))
      have V11 := Lib.hid (V10.out.kept fun g' hg => k2 g' (.inr (HVl.out g' hg)))
      clear k1 k2 S10 A10 X10 V10
      go_wp2_with fail
      go_at_call 25
      refine (so_power S11.out).mono ?_
      rintro e w12 ⟨rfl, k1, k2⟩
      obtain ⟨r1, r2, r3⟩ := R10.out.again keep
      have S12 := Lib.hid k1.plate
      have A12 := Lib.hid (A11.out.keptO k2 (.inl rfl))
      have X12 := Lib.hid (X11.out.keptO k2 (.inr ⟨HW.out, hX8⟩))
      have V12 := Lib.hid (V11.out.kept fun g' hg => k2 g' (.inr (HVl.out g' hg)))
      have F12 := H3.out.same (g := readB (power (crash s10 keep))) (fun j _ => r3 j)
      have hop := F12.opens
      rw [H3l.out] at hop
      have G3 := Lib.hid F12.good
      generalize power (crash s10 keep) = s12 at S12 r1 r2 hop
      have R12 := Lib.hid r1
      have HOp := Lib.hid hop
      have HG2 := Lib.hid r2
      clear k1 k2 r1 r2 r3 S11 A11 X11 V11 H3 F12 hop R10
      go_wp2_with fail
      go_at_call 11
      refine (plo_open S12.out HT.out R12.out.good HG2.out R12.out.len).mono ?_
      rintro e w13 ⟨tb, nb, rfl, k1, k2⟩
      rw [HOp.out.1, HOp.out.2] at k1
      have S13 := Lib.hid k1
      have A13 := Lib.hid (A12.out.keptO k2 (.inl rfl))
      have X13 := Lib.hid (X12.out.keptO k2 (.inr ⟨HW.out, hX8⟩))
      have V13 := Lib.hid (V12.out.kept fun g' hg => k2 g' (.inr (HVl.out g' hg)))
      clear k1 k2 S12 A12 X12 V12 R12 HOp HG2
      go_wp2_with fail
      go_at_call 35
      obtain ⟨Fb, hFb, -⟩ := S13.out.go HT.out
      refine (sbad_any hFb (Nat.zero_le _)).mono ?_
      rintro e w14 ⟨v14, rfl, k1, k2⟩
      obtain ⟨Ab, cb, rfl, -, -⟩ := own_shape k1
      have S14 := Lib.hid (S13.out.below k2).1
      have A14 := Lib.hid (A13.out.below k2)
      have X14 := Lib.hid (X13.out.below k2)
      have V14 := Lib.hid (OwnsB.below k2 V13.out)
      clear k1 k2 hFb S13 A13 X13 V13
      obtain ⟨d0, d1, d2⟩ := A14.out.all
      go_wp2_with fail
      go_at_call 27
      refine (so_get S14.out Hid.out).mono ?_
      rintro e w15 ⟨rfl, k1⟩
      obtain ⟨now, hnow⟩ : ∃ x, getB L3 b.id = x := ⟨_, rfl⟩
      obtain ⟨has, hhas⟩ : ∃ x, getE L3 b.id = x := ⟨_, rfl⟩
      rw [hnow, hhas]
      have kx : Below w15.heap.size w15 (w15.alloc (.cells now.cells 37)) := (Below.refl _ _).alloc (Nat.le_refl _) _
      have ky := k1.trans (kx.mono k1.size)
      have S16 := Lib.hid (S14.out.below ky).1
      have A16 := Lib.hid (A14.out.below ky)
      have X16 := Lib.hid (X14.out.below ky)
      have V16 := Lib.hid (OwnsB.below ky V14.out)
      have Y16 := Lib.hid (AB.fresh w15 now)
      have h1 := HAf.out.one
      rw [hnow, hhas, HOl.out, HHa.out] at h1
      have HOne := Lib.hid h1
      clear k1 kx ky d0 d1 d2 S14 A14 X14 V14 hnow hhas h1 HOl HHa
      obtain ⟨d0, d1, d2⟩ := A16.out.all
      obtain ⟨x0, x1, x2⟩ := X16.out.all
      obtain ⟨y0, y1, y2⟩ := Y16.out.all
      have hl0 : (listL L).length ≤ 128 := by rw [list_length HG.out]; have := cnt_le L; have := HG.out.hi; omega
      obtain ⟨As, cs, rfl, hsh⟩ := bshape V16.out
      have HSH := Lib.hid hsh
      clear hsh V16 HVl
      rcases HOne.out with ⟨rfl, rfl⟩ | ⟨hf, rfl, rfl⟩
      · have hne := bk_neq now now
        rw [decide_eq_true rfl] at hne
        by_cases hf : pe = 0
        · subst hf
          clear HOne
          go_wp2
          generalize w15.alloc (.cells #[.int .i64 now.id, .int .i64 now.ver, .string now.data] 37) = w16 at *
          go_loopw [23] (fun iv wx => ∃ j : Nat, j ≤ (listL L).length ∧ iv = .int .i64 j ∧ Below w16.heap.size w16 wx) (fun iv _ => (listL L).length - (RowKit.intOf iv).toNat)
          case atStart => exact ⟨0, Nat.zero_le _, rfl, Below.refl _ _⟩
          case round =>
            obtain ⟨j, hj, rfl, hb⟩ := hrel
            have HBx := Lib.hid hb
            clear hb
            by_cases hjl : j < (listL L).length
            · obtain ⟨q', hq'⟩ : ∃ x, (listL L)[j]? = some x := ⟨_, List.getElem?_eq_getElem hjl⟩
              obtain ⟨p', hp'⟩ := (mem_list HG.out).1 (List.mem_of_getElem? hq')
              obtain ⟨g', rfl, hg', hat'⟩ := HSH.out j q' hq'
              have hqi := Bk.id64 (HG.out.ok p' q' hp')
              have HAt := Lib.hid (fun wz (hz : Below w16.heap.size w16 wz) => hat'.below hz hg')
              obtain ⟨q0, q1, q2⟩ := HAt.out _ HBx.out
              have hjI : (j : Int) < ((listL L).length : Int) := by omega
              have hj0 : (0 : Int) ≤ (j : Int) := by omega
              have Sx := Lib.hid (S16.out.below HBx.out).1
              have HAll := Lib.hid (HAf.out.all p' q' hp')
              have HQi := Lib.hid hqi
              clear hq' hp' hat' hqi HSH
              go_wp2_with fail
              go_at_call 27
              refine (so_get Sx.out HQi.out).mono ?_
              rintro e wy ⟨rfl, k1⟩
              obtain ⟨xx, hxx⟩ : ∃ x, getB L3 q'.id = x := ⟨_, rfl⟩
              obtain ⟨xe, hxe⟩ : ∃ x, getE L3 q'.id = x := ⟨_, rfl⟩
              rw [hxx, hxe] at HAll ⊢
              have kx : Below wy.heap.size wy (wy.alloc (.cells xx.cells 37)) := (Below.refl _ _).alloc (Nat.le_refl _) _
              have BX := Lib.hid (HBx.out.trans ((k1.trans (kx.mono k1.size)).mono HBx.out.size))
              have Z := Lib.hid (AB.fresh wy xx)
              have Az := Lib.hid (A16.out.below BX.out)
              clear k1 kx q0 q1 q2 hxx hxe
              obtain ⟨q0, q1, q2⟩ := HAt.out _ BX.out
              obtain ⟨z0, z1, z2⟩ := Z.out.all
              obtain ⟨d0, d1, d2⟩ := Az.out.all
              go_wp2_with fail
              generalize wy.alloc (.cells #[.int .i64 xx.id, .int .i64 xx.ver, .string xx.data] 37) = wz at *
              by_cases hne : q'.id = now.id
              · have hnb : (q'.id != now.id) = false := by simpa using hne
                have hnb2 : (q'.id == now.id) = true := by simpa using hne
                have hnb3 : decide (q'.id = now.id) = true := decide_eq_true hne
                clear HAll
                go_quiet (fail)
                go_wp2_with fail
                go_roundw
                case rel => exact ⟨j + 1, by omega, by go_num, below_drewN BX.out _⟩
                case measure => simp only [RowKit.intOf]; omega
              · have hnb : (q'.id != now.id) = true := by simpa using hne
                have hnb2 : (q'.id == now.id) = false := by simpa using hne
                have hnb3 : decide (q'.id = now.id) = false := decide_eq_false hne
                obtain ⟨e1, e2⟩ := HAll.out hne
                subst e1 e2
                have hneq := bk_neq xx xx
                rw [decide_eq_true rfl] at hneq
                clear HAll hne
                go_quiet (fail)
                go_wp2_with fail
                go_roundw
                case rel => exact ⟨j + 1, by omega, by go_num, below_drewN BX.out _⟩
                case measure => simp only [RowKit.intOf]; omega
            · obtain rfl : j = (listL L).length := by omega
              have hjI : ¬ (((listL L).length : Int) < ((listL L).length : Int)) := by omega
              have Sx := Lib.hid (S16.out.below HBx.out).1
              have hll := HAf.out.len
              have hl3 : (listL L3).length ≤ 128 := by rw [list_length G3.out]; have := cnt_le L3; have := G3.out.hi; omega
              go_wp2_with fail
              go_at_call 30
              refine (so_list Sx.out).mono ?_
              rintro e wy ⟨vy, rfl, k1, k2⟩
              obtain ⟨Ay, cy, rfl, -⟩ := bshape k1
              have BY := Lib.hid (Sx.out.bel.trans (k2.mono Sx.out.bel.size))
              have hwr : IntKind.i64.wrap (((listL L).length : Int) + 1) = ((listL L).length : Int) + 1 := IntWalk.i64_in _ (by omega)
              have hle : decide (((listL L3).length : Int) ≤ ((listL L).length : Int) + 1) = true := decide_eq_true (by omega)
              have hle2 : ((listL L3).length : Int) ≤ ((listL L).length : Int) + 1 := by omega
              clear k1 k2
              go_wp2
              go_ret
              exact ⟨rfl, BY.out⟩

        · have hf1 : (pe == 0) = false := by simpa using hf
          clear HOne
          go_wp2
          generalize w15.alloc (.cells #[.int .i64 now.id, .int .i64 now.ver, .string now.data] 37) = w16 at *
          go_loopw [23] (fun iv wx => ∃ j : Nat, j ≤ (listL L).length ∧ iv = .int .i64 j ∧ Below w16.heap.size w16 wx) (fun iv _ => (listL L).length - (RowKit.intOf iv).toNat)
          case atStart => exact ⟨0, Nat.zero_le _, rfl, Below.refl _ _⟩
          case round =>
            obtain ⟨j, hj, rfl, hb⟩ := hrel
            have HBx := Lib.hid hb
            clear hb
            by_cases hjl : j < (listL L).length
            · obtain ⟨q', hq'⟩ : ∃ x, (listL L)[j]? = some x := ⟨_, List.getElem?_eq_getElem hjl⟩
              obtain ⟨p', hp'⟩ := (mem_list HG.out).1 (List.mem_of_getElem? hq')
              obtain ⟨g', rfl, hg', hat'⟩ := HSH.out j q' hq'
              have hqi := Bk.id64 (HG.out.ok p' q' hp')
              have HAt := Lib.hid (fun wz (hz : Below w16.heap.size w16 wz) => hat'.below hz hg')
              obtain ⟨q0, q1, q2⟩ := HAt.out _ HBx.out
              have hjI : (j : Int) < ((listL L).length : Int) := by omega
              have hj0 : (0 : Int) ≤ (j : Int) := by omega
              have Sx := Lib.hid (S16.out.below HBx.out).1
              have HAll := Lib.hid (HAf.out.all p' q' hp')
              have HQi := Lib.hid hqi
              clear hq' hp' hat' hqi HSH
              go_wp2_with fail
              go_at_call 27
              refine (so_get Sx.out HQi.out).mono ?_
              rintro e wy ⟨rfl, k1⟩
              obtain ⟨xx, hxx⟩ : ∃ x, getB L3 q'.id = x := ⟨_, rfl⟩
              obtain ⟨xe, hxe⟩ : ∃ x, getE L3 q'.id = x := ⟨_, rfl⟩
              rw [hxx, hxe] at HAll ⊢
              have kx : Below wy.heap.size wy (wy.alloc (.cells xx.cells 37)) := (Below.refl _ _).alloc (Nat.le_refl _) _
              have BX := Lib.hid (HBx.out.trans ((k1.trans (kx.mono k1.size)).mono HBx.out.size))
              have Z := Lib.hid (AB.fresh wy xx)
              have Az := Lib.hid (A16.out.below BX.out)
              clear k1 kx q0 q1 q2 hxx hxe
              obtain ⟨q0, q1, q2⟩ := HAt.out _ BX.out
              obtain ⟨z0, z1, z2⟩ := Z.out.all
              obtain ⟨d0, d1, d2⟩ := Az.out.all
              go_wp2_with fail
              generalize wy.alloc (.cells #[.int .i64 xx.id, .int .i64 xx.ver, .string xx.data] 37) = wz at *
              by_cases hne : q'.id = now.id
              · have hnb : (q'.id != now.id) = false := by simpa using hne
                have hnb2 : (q'.id == now.id) = true := by simpa using hne
                have hnb3 : decide (q'.id = now.id) = true := decide_eq_true hne
                clear HAll
                go_quiet (fail)
                go_wp2_with fail
                go_roundw
                case rel => exact ⟨j + 1, by omega, by go_num, below_drewN BX.out _⟩
                case measure => simp only [RowKit.intOf]; omega
              · have hnb : (q'.id != now.id) = true := by simpa using hne
                have hnb2 : (q'.id == now.id) = false := by simpa using hne
                have hnb3 : decide (q'.id = now.id) = false := decide_eq_false hne
                obtain ⟨e1, e2⟩ := HAll.out hne
                subst e1 e2
                have hneq := bk_neq xx xx
                rw [decide_eq_true rfl] at hneq
                clear HAll hne
                go_quiet (fail)
                go_wp2_with fail
                go_roundw
                case rel => exact ⟨j + 1, by omega, by go_num, below_drewN BX.out _⟩
                case measure => simp only [RowKit.intOf]; omega
            · obtain rfl : j = (listL L).length := by omega
              have hjI : ¬ (((listL L).length : Int) < ((listL L).length : Int)) := by omega
              have Sx := Lib.hid (S16.out.below HBx.out).1
              have hll := HAf.out.len
              have hl3 : (listL L3).length ≤ 128 := by rw [list_length G3.out]; have := cnt_le L3; have := G3.out.hi; omega
              go_wp2_with fail
              go_at_call 30
              refine (so_list Sx.out).mono ?_
              rintro e wy ⟨vy, rfl, k1, k2⟩
              obtain ⟨Ay, cy, rfl, -⟩ := bshape k1
              have BY := Lib.hid (Sx.out.bel.trans (k2.mono Sx.out.bel.size))
              have hwr : IntKind.i64.wrap (((listL L).length : Int) + 1) = ((listL L).length : Int) + 1 := IntWalk.i64_in _ (by omega)
              have hle : decide (((listL L3).length : Int) ≤ ((listL L).length : Int) + 1) = true := decide_eq_true (by omega)
              have hle2 : ((listL L3).length : Int) ≤ ((listL L).length : Int) + 1 := by omega
              clear k1 k2
              go_wp2
              go_ret
              exact ⟨rfl, BY.out⟩

      · have hf1 : (pe == 0) = false := by simpa using hf
        have hne := bk_neq now b
        have hne2 := bk_neq now now
        rw [decide_eq_true rfl] at hne2
        clear HOne
        by_cases hnb : now = b
        · rw [decide_eq_true hnb] at hne
          clear hnb
          go_wp2
          generalize w15.alloc (.cells #[.int .i64 now.id, .int .i64 now.ver, .string now.data] 37) = w16 at *
          go_loopw [23] (fun iv wx => ∃ j : Nat, j ≤ (listL L).length ∧ iv = .int .i64 j ∧ Below w16.heap.size w16 wx) (fun iv _ => (listL L).length - (RowKit.intOf iv).toNat)
          case atStart => exact ⟨0, Nat.zero_le _, rfl, Below.refl _ _⟩
          case round =>
            obtain ⟨j, hj, rfl, hb⟩ := hrel
            have HBx := Lib.hid hb
            clear hb
            by_cases hjl : j < (listL L).length
            · obtain ⟨q', hq'⟩ : ∃ x, (listL L)[j]? = some x := ⟨_, List.getElem?_eq_getElem hjl⟩
              obtain ⟨p', hp'⟩ := (mem_list HG.out).1 (List.mem_of_getElem? hq')
              obtain ⟨g', rfl, hg', hat'⟩ := HSH.out j q' hq'
              have hqi := Bk.id64 (HG.out.ok p' q' hp')
              have HAt := Lib.hid (fun wz (hz : Below w16.heap.size w16 wz) => hat'.below hz hg')
              obtain ⟨q0, q1, q2⟩ := HAt.out _ HBx.out
              have hjI : (j : Int) < ((listL L).length : Int) := by omega
              have hj0 : (0 : Int) ≤ (j : Int) := by omega
              have Sx := Lib.hid (S16.out.below HBx.out).1
              have HAll := Lib.hid (HAf.out.all p' q' hp')
              have HQi := Lib.hid hqi
              clear hq' hp' hat' hqi HSH
              go_wp2_with fail
              go_at_call 27
              refine (so_get Sx.out HQi.out).mono ?_
              rintro e wy ⟨rfl, k1⟩
              obtain ⟨xx, hxx⟩ : ∃ x, getB L3 q'.id = x := ⟨_, rfl⟩
              obtain ⟨xe, hxe⟩ : ∃ x, getE L3 q'.id = x := ⟨_, rfl⟩
              rw [hxx, hxe] at HAll ⊢
              have kx : Below wy.heap.size wy (wy.alloc (.cells xx.cells 37)) := (Below.refl _ _).alloc (Nat.le_refl _) _
              have BX := Lib.hid (HBx.out.trans ((k1.trans (kx.mono k1.size)).mono HBx.out.size))
              have Z := Lib.hid (AB.fresh wy xx)
              have Az := Lib.hid (A16.out.below BX.out)
              clear k1 kx q0 q1 q2 hxx hxe
              obtain ⟨q0, q1, q2⟩ := HAt.out _ BX.out
              obtain ⟨z0, z1, z2⟩ := Z.out.all
              obtain ⟨d0, d1, d2⟩ := Az.out.all
              go_wp2_with fail
              generalize wy.alloc (.cells #[.int .i64 xx.id, .int .i64 xx.ver, .string xx.data] 37) = wz at *
              by_cases hne : q'.id = b.id
              · have hnb : (q'.id != b.id) = false := by simpa using hne
                have hnb2 : (q'.id == b.id) = true := by simpa using hne
                have hnb3 : decide (q'.id = b.id) = true := decide_eq_true hne
                clear HAll
                go_quiet (fail)
                go_wp2_with fail
                go_roundw
                case rel => exact ⟨j + 1, by omega, by go_num, below_drewN BX.out _⟩
                case measure => simp only [RowKit.intOf]; omega
              · have hnb : (q'.id != b.id) = true := by simpa using hne
                have hnb2 : (q'.id == b.id) = false := by simpa using hne
                have hnb3 : decide (q'.id = b.id) = false := decide_eq_false hne
                obtain ⟨e1, e2⟩ := HAll.out hne
                subst e1 e2
                have hneq := bk_neq xx xx
                rw [decide_eq_true rfl] at hneq
                clear HAll hne
                go_quiet (fail)
                go_wp2_with fail
                go_roundw
                case rel => exact ⟨j + 1, by omega, by go_num, below_drewN BX.out _⟩
                case measure => simp only [RowKit.intOf]; omega
            · obtain rfl : j = (listL L).length := by omega
              have hjI : ¬ (((listL L).length : Int) < ((listL L).length : Int)) := by omega
              have Sx := Lib.hid (S16.out.below HBx.out).1
              have hll := HAf.out.len
              have hl3 : (listL L3).length ≤ 128 := by rw [list_length G3.out]; have := cnt_le L3; have := G3.out.hi; omega
              go_wp2_with fail
              go_at_call 30
              refine (so_list Sx.out).mono ?_
              rintro e wy ⟨vy, rfl, k1, k2⟩
              obtain ⟨Ay, cy, rfl, -⟩ := bshape k1
              have BY := Lib.hid (Sx.out.bel.trans (k2.mono Sx.out.bel.size))
              have hwr : IntKind.i64.wrap (((listL L).length : Int) + 1) = ((listL L).length : Int) + 1 := IntWalk.i64_in _ (by omega)
              have hle : decide (((listL L3).length : Int) ≤ ((listL L).length : Int) + 1) = true := decide_eq_true (by omega)
              have hle2 : ((listL L3).length : Int) ≤ ((listL L).length : Int) + 1 := by omega
              clear k1 k2
              go_wp2
              go_ret
              exact ⟨rfl, BY.out⟩

        · rw [decide_eq_false hnb] at hne
          clear hnb
          go_wp2
          generalize w15.alloc (.cells #[.int .i64 now.id, .int .i64 now.ver, .string now.data] 37) = w16 at *
          go_loopw [23] (fun iv wx => ∃ j : Nat, j ≤ (listL L).length ∧ iv = .int .i64 j ∧ Below w16.heap.size w16 wx) (fun iv _ => (listL L).length - (RowKit.intOf iv).toNat)
          case atStart => exact ⟨0, Nat.zero_le _, rfl, Below.refl _ _⟩
          case round =>
            obtain ⟨j, hj, rfl, hb⟩ := hrel
            have HBx := Lib.hid hb
            clear hb
            by_cases hjl : j < (listL L).length
            · obtain ⟨q', hq'⟩ : ∃ x, (listL L)[j]? = some x := ⟨_, List.getElem?_eq_getElem hjl⟩
              obtain ⟨p', hp'⟩ := (mem_list HG.out).1 (List.mem_of_getElem? hq')
              obtain ⟨g', rfl, hg', hat'⟩ := HSH.out j q' hq'
              have hqi := Bk.id64 (HG.out.ok p' q' hp')
              have HAt := Lib.hid (fun wz (hz : Below w16.heap.size w16 wz) => hat'.below hz hg')
              obtain ⟨q0, q1, q2⟩ := HAt.out _ HBx.out
              have hjI : (j : Int) < ((listL L).length : Int) := by omega
              have hj0 : (0 : Int) ≤ (j : Int) := by omega
              have Sx := Lib.hid (S16.out.below HBx.out).1
              have HAll := Lib.hid (HAf.out.all p' q' hp')
              have HQi := Lib.hid hqi
              clear hq' hp' hat' hqi HSH
              go_wp2_with fail
              go_at_call 27
              refine (so_get Sx.out HQi.out).mono ?_
              rintro e wy ⟨rfl, k1⟩
              obtain ⟨xx, hxx⟩ : ∃ x, getB L3 q'.id = x := ⟨_, rfl⟩
              obtain ⟨xe, hxe⟩ : ∃ x, getE L3 q'.id = x := ⟨_, rfl⟩
              rw [hxx, hxe] at HAll ⊢
              have kx : Below wy.heap.size wy (wy.alloc (.cells xx.cells 37)) := (Below.refl _ _).alloc (Nat.le_refl _) _
              have BX := Lib.hid (HBx.out.trans ((k1.trans (kx.mono k1.size)).mono HBx.out.size))
              have Z := Lib.hid (AB.fresh wy xx)
              have Az := Lib.hid (A16.out.below BX.out)
              clear k1 kx q0 q1 q2 hxx hxe
              obtain ⟨q0, q1, q2⟩ := HAt.out _ BX.out
              obtain ⟨z0, z1, z2⟩ := Z.out.all
              obtain ⟨d0, d1, d2⟩ := Az.out.all
              go_wp2_with fail
              generalize wy.alloc (.cells #[.int .i64 xx.id, .int .i64 xx.ver, .string xx.data] 37) = wz at *
              by_cases hne : q'.id = b.id
              · have hnb : (q'.id != b.id) = false := by simpa using hne
                have hnb2 : (q'.id == b.id) = true := by simpa using hne
                have hnb3 : decide (q'.id = b.id) = true := decide_eq_true hne
                clear HAll
                go_quiet (fail)
                go_wp2_with fail
                go_roundw
                case rel => exact ⟨j + 1, by omega, by go_num, below_drewN BX.out _⟩
                case measure => simp only [RowKit.intOf]; omega
              · have hnb : (q'.id != b.id) = true := by simpa using hne
                have hnb2 : (q'.id == b.id) = false := by simpa using hne
                have hnb3 : decide (q'.id = b.id) = false := decide_eq_false hne
                obtain ⟨e1, e2⟩ := HAll.out hne
                subst e1 e2
                have hneq := bk_neq xx xx
                rw [decide_eq_true rfl] at hneq
                clear HAll hne
                go_quiet (fail)
                go_wp2_with fail
                go_roundw
                case rel => exact ⟨j + 1, by omega, by go_num, below_drewN BX.out _⟩
                case measure => simp only [RowKit.intOf]; omega
            · obtain rfl : j = (listL L).length := by omega
              have hjI : ¬ (((listL L).length : Int) < ((listL L).length : Int)) := by omega
              have Sx := Lib.hid (S16.out.below HBx.out).1
              have hll := HAf.out.len
              have hl3 : (listL L3).length ≤ 128 := by rw [list_length G3.out]; have := cnt_le L3; have := G3.out.hi; omega
              go_wp2_with fail
              go_at_call 30
              refine (so_list Sx.out).mono ?_
              rintro e wy ⟨vy, rfl, k1, k2⟩
              obtain ⟨Ay, cy, rfl, -⟩ := bshape k1
              have BY := Lib.hid (Sx.out.bel.trans (k2.mono Sx.out.bel.size))
              have hwr : IntKind.i64.wrap (((listL L).length : Int) + 1) = ((listL L).length : Int) + 1 := IntWalk.i64_in _ (by omega)
              have hle : decide (((listL L3).length : Int) ≤ ((listL L).length : Int) + 1) = true := decide_eq_true (by omega)
              have hle2 : ((listL L3).length : Int) ≤ ((listL L).length : Int) + 1 := by omega
              clear k1 k2
              go_wp2
              go_ret
              exact ⟨rfl, BY.out⟩

set_option maxRecDepth 100000 in
set_option maxHeartbeats 2000000 in
theorem cuts_out9 (m : Nat) (A : Option Addr) (n c : Nat) (b : Bk) (at_ : Int) (keep : Nat) (w : World) (hT : Tab w) (h : 60 < n ∨ 100 < b.data.size) :
    Calls Tryz.prog 4 #[.int .u8 m, .slice A n c, b.val, .int .i64 at_, .int .u64 keep] w fun e w' => e = .returned (.bool true) ∧ Below w.heap.size w w' := by
  have hba : Below w.heap.size w (w.alloc (.cells b.cells 37)) := (Below.refl _ _).alloc (Nat.le_refl _) _
  have BA := Lib.hid hba
  have A0 := Lib.hid (AB.fresh w b)
  have HSh := Lib.hid (shown_any (hT.below hba))
  obtain ⟨d0, d1, d2⟩ := A0.out.all
  by_cases hn : 60 < n
  · have hnI : (60 : Int) < (n : Int) := by omega
    clear h hn hT hba
    go_enter Tryz.func4, Tryz.ntmps4
    go_wp2_with fail
    go_at_call 8
    refine HSh.out.mono ?_
    rintro e w2 ⟨rfl, k1⟩
    have B2 := Lib.hid (BA.out.trans (k1.mono BA.out.size))
    clear k1
    go_wp2
    go_ret
    exact ⟨rfl, B2.out⟩
  · have hd := h.resolve_left hn
    have hnI : ¬ (60 : Int) < (n : Int) := by omega
    have hdI : (100 : Int) < (b.data.size : Int) := by omega
    clear h hn hT hba hd
    go_enter Tryz.func4, Tryz.ntmps4
    go_wp2_with fail
    go_at_call 8
    refine HSh.out.mono ?_
    rintro e w2 ⟨rfl, k1⟩
    have B2 := Lib.hid (BA.out.trans (k1.mono BA.out.size))
    clear k1
    go_wp2
    go_ret
    exact ⟨rfl, B2.out⟩
theorem shelfCuts_any (m : Nat) (A : Option Addr) (n c : Nat) (bs : Nat → Bk) (b : Bk) (at_ : Int) (keep : Nat) (w : World) (hT : Tab w) (hm : m < 256) (hS : BIn w A n bs) (hid : i64 b.id) (hat : at_ < 9223372036854775808) (hkp : keep < 18446744073709551616) :
    Calls Tryz.prog 4 #[.int .u8 m, .slice A n c, b.val, .int .i64 at_, .int .u64 keep] w fun e w' => e = .returned (.bool true) ∧ Below w.heap.size w w' := by
  by_cases h : 60 < n ∨ 100 < b.data.size
  · exact cuts_out9 m A n c b at_ keep w hT h
  · exact cuts_in m A n c bs b at_ keep w hT hm hS (by omega) (by omega) hid hat hkp
end Go.Proofs.YtacdbfaoeioflaaGreatDoor
