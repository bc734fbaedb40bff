/-
  Decode's loop (package wire), walked: the steps one by one, up to the first error.
-/
import Derived.Test.YtjgicapjbibioaaDoorDec3
namespace Go.Proofs.YtjgicapjbibioaaDoor
open Go.RowKit Go.Lib Go.PlainAid

/-- What is kept through Decode's loop, at step i. -/
structure Dst (w wr : World) (lo G A B : Nat) (zs : List Nat) (b R : Nat) (t : ByteArray) (i : Nat) : Prop where
  le : i ≤ 10
  ok : ∀ j, j < i → stepE t j = []
  stp : Stp wr lo G A B zs b R
  mb : MB wr b (mAt t i)
  rdr : Rdr wr R t (rAt t i)
  err : ErrType wr
  res : MB wr w.heap.size M.zero
  below : Below w.heap.size w wr

theorem ErrType.fr {w w' : World} {b R : Nat} (h : ErrType w) (hf : Fr b (some R) w w') (h1 : 0 < b) (h2 : 0 < R) : ErrType w' := by
  unfold ErrType at *
  exact cell_fr hf (by omega) (by omega) h
theorem below_fr {w w' : World} {B b R : Nat} (hf : Fr b (some R) w w') (h1 : B ≤ b) (h2 : B ≤ R) (hB : B ≤ w.heap.size) : Below B w w' :=
  ⟨hf.os, hf.tape, hf.output, hf.size, fun k hk => hf.block k (by omega) (by omega) (by simp; omega)⟩

/-- One step: what a call that turns only the message's block and the reader's leaves. -/
theorem Dst.next {w wr w' : World} {lo G A B b R : Nat} {zs : List Nat} {t : ByteArray} {i : Nat} (h : Dst w wr lo G A B zs b R t i) (hi : i < 10) (hf : Fr b (some R) wr w') (he : stepE t i = []) (hm : MB w' b (mAt t (i + 1))) (hr : Rdr w' R t (rAt t (i + 1)))
    (hbw : w.heap.size < b) (hRw : w.heap.size < R) (hbl : b < lo) (hRl : R < lo) : Dst w w' lo G A B zs b R t (i + 1) := by
  have hz := h.below.size
  refine ⟨by omega, fun j hj => ?_, h.stp.fr hf hbl hRl, hm, hr, h.err.fr hf (by omega) (by omega), h.res.fr hf (by omega) (by simp; omega), h.below.trans (below_fr hf (by omega) (by omega) hz)⟩
  by_cases e : j = i
  · subst e; exact he
  · exact h.ok j (by omega)

def outM (t : ByteArray) : M := if decE t = [] then msgOf t else M.zero
def outE (t : ByteArray) : List Int := if decE t = [] then [] else 30 :: decE t
theorem out_bad {t : ByteArray} {k : Nat} (hk : k < 10) (h : stepE t k ≠ []) (ha : ∀ j, j < k → stepE t j = []) : outM t = M.zero ∧ outE t = 30 :: stepE t k := by
  unfold outM outE
  rw [decE_at hk h ha, if_neg h, if_neg h]
  exact ⟨rfl, rfl⟩
theorem out_ok {t : ByteArray} (ha : ∀ j, j < 10 → stepE t j = []) : outM t = msgOf t ∧ outE t = [] := by
  unfold outM outE
  rw [decE_none ha, if_pos rfl, if_pos rfl]
  exact ⟨rfl, rfl⟩
theorem openOf_size (s : ByteArray) : (openOf s).1.size ≤ s.size := by
  unfold openOf
  split
  · simp only [ByteArray.size_extract]; omega
  · exact Nat.zero_le _

set_option maxRecDepth 100000 in
set_option maxHeartbeats 8000000 in
theorem decode_yes (s t : ByteArray) (w : World) (hT : Tab w) (hg : ErrType w) (hs : s.size ≤ 1000000) (ho : openOf s = (t, true)) :
    Calls Tryd.prog 12 #[.string s] w fun e w' => ∃ v, e = .returned (.tuple #[(outM t).val, v]) ∧ Chained w' v (outE t) ∧ Below w.heap.size w w' := by
  have hts : t.size ≤ 1000000 := by have := openOf_size s; rw [ho] at this; exact Nat.le_trans this hs
  have hb0 : Below w.heap.size w (w.alloc (.cells M.zero.cells 23)) := (Below.refl _ _).alloc (Nat.le_refl _) _
  have HT := Lib.hid (hT.below hb0)
  have HE0 := Lib.hid (hg.below hb0)
  have HB0 := Lib.hid hb0
  have HD0 := Lib.hid (MB.fresh w M.zero)
  have HO := Lib.hid (fun W h => open_any s W h (by omega))
  rw [ho] at HO
  clear hT hg hb0 ho
  go_enter Tryd.func12, Tryd.ntmps12
  go_wp2_with fail
  go_at_call 29
  refine (HO.out _ HT.out).mono ?_
  rintro e w1 ⟨rfl, hb1⟩
  have hbA : Below w1.heap.size w1 (w1.alloc (.cells M.zero.cells 23)) := (Below.refl _ _).alloc (Nat.le_refl _) _
  have HD1 := Lib.hid ((HD0.out.below hb1).below hbA)
  have HB1 := Lib.hid ((HB0.out.trans (hb1.mono HB0.out.size)))
  have hz1 := (HD0.out.below hb1).lt
  have HBa := Lib.hid (HB1.out.trans (hbA.mono HB1.out.size))
  have HE1 := Lib.hid ((HE0.out.below hb1).below hbA)
  have HM1 := Lib.hid (MB.fresh w1 M.zero)
  have hsz : w1.heap.size < (w1.alloc (.cells M.zero.cells 23)).heap.size := by simp
  clear HD0 HB0 HB1 HE0 HT HO hb1 hbA
  go_wp2_with fail
  generalize w1.alloc (.cells M.zero.cells 23) = w2 at HD1 HBa HE1 HM1 hsz ⊢
  generalize w1.heap.size = b at *
  go_at_call 32
  refine (newReader t w2).mono ?_
  rintro e w3 ⟨rfl, hr3, hb3, hz3⟩
  have HD3 := Lib.hid (HD1.out.below hb3)
  have HM3 := Lib.hid (HM1.out.below hb3)
  have HE3 := Lib.hid (HE1.out.below hb3)
  have HB3 := Lib.hid (HBa.out.trans (hb3.mono HBa.out.size))
  have HR3 := Lib.hid hr3
  generalize w2.heap.size = R at *
  clear HD1 HM1 HE1 HBa hr3 hb3
  go_wp2_with fail
  go_at_call 31
  refine (steps_any b R w3).mono ?_
  rintro e w4 ⟨G, cap, A, B, zs, rfl, hst, hb4⟩
  have HD4 := Lib.hid (HD3.out.below hb4)
  have HM4 := Lib.hid (HM3.out.below hb4)
  have HE4 := Lib.hid (HE3.out.below hb4)
  have HB4 := Lib.hid (HB3.out.trans (hb4.mono HB3.out.size))
  have HR4 := Lib.hid (HR3.out.below hb4)
  have HS4 := Lib.hid hst
  clear HD3 HM3 HE3 HB3 HR3 hst hb4
  generalize w3.heap.size = lo at *
  have hDst : Dst w w4 lo G A B zs b R t 0 := ⟨by omega, fun j hj => by omega, HS4.out, HM4.out, HR4.out, HE4.out, HD4.out, HB4.out⟩
  have HDst := Lib.hid hDst
  clear HD4 HM4 HE4 HB4 HR4 HS4 hDst
  go_wp2
  go_loopw [23] (fun iv wr => ∃ i : Nat, iv = .int .i64 i ∧ Dst w wr lo G A B zs b R t i) (fun iv _ => 10 - (intOf iv).toNat)
  case atStart => exact ⟨0, rfl, HDst.out⟩
  case round =>
    obtain ⟨i, rfl, hd⟩ := hrel
    clear HDst
    have hle := hd.le
    have HD := Lib.hid hd
    have hi0 : (0 : Int) ≤ (i : Int) := by omega
    by_cases hlt : i < 10
    · have hiI : (i : Int) < 10 := by omega
      by_cases h7 : i < 7
      · obtain ⟨z, hz⟩ : ∃ z, zs[i]? = some z := ⟨_, List.getElem?_eq_getElem (by rw [hd.stp.len]; exact h7)⟩
        have hc := hd.stp.c1 i z hz
        have hpz : pos i ≤ t.size := by
          rcases i with _ | i
          · exact Nat.zero_le _
          · have := hd.ok i (by omega); rw [stepE_num (by omega)] at this; exact (numE_ok this).1
        have hrd := hd.rdr
        rw [rAt_num t i (by omega)] at hrd
        have lz := hd.stp.lz i z hz
        have lB := hd.stp.lB
        have HC := Lib.hid (clo1 b R z B i (mAt t i) t wr h7 hd.stp.cB (hd.stp.o1 i z hz) hd.mb hrd hpz (by omega) (by omega) (by omega) (by omega) (by omega) (by omega))
        clear hd hrd hpz hz
        go_wp2_with fail
        go_at_call 52
        refine HC.out.mono ?_
        rintro e wa ⟨v, rfl, hch, hgo, hf⟩
        rw [← stepE_num (t := t) h7] at hch hgo
        by_cases he : stepE t i = []
        · obtain ⟨hm, hr⟩ := hgo he
          rw [he] at hch
          obtain rfl : v = .nilIface := hch
          have HN := Lib.hid (HD.out.next hlt hf he (by rw [mAt_num t i h7]; exact hm) (by rw [rAt_num t (i + 1) (by omega)]; exact hr) (by omega) (by omega) (by omega) (by omega))
          clear HC HD hgo hf hm hr he
          go_wp2
          go_roundw
          case rel => exact ⟨i + 1, by go_num, HN.out⟩
          case measure => simp [intOf]; omega
        · obtain ⟨hoM, hoE⟩ := out_bad hlt he HD.out.ok
          have HDa := Lib.hid (HD.out.res.fr hf (by omega) (by simp; omega))
          have HBa := Lib.hid (HD.out.below.trans (below_fr hf (by omega) (by omega) HD.out.below.size))
          have HW := Lib.hid (wrap_new 30 0 v (stepE t i) wa (by decide) hch)
          have HOM := Lib.hid hoM
          have HOE := Lib.hid hoE
          have hv : ∃ ty x, v = .iface ty x := by
            cases hse : stepE t i with
            | nil => exact absurd hse he
            | cons x xs => rw [hse] at hch; obtain ⟨b', o', u', rfl, _⟩ := hch; exact ⟨_, _, rfl⟩
          obtain ⟨ty, x, rfl⟩ := hv
          clear HC HD hgo hf hch hoM hoE he
          go_wp2_with fail
          go_at_call 30
          refine HW.out.mono ?_
          rintro e wb ⟨v2, rfl, hc2, hb2⟩
          have HD2 := Lib.hid (HDa.out.below hb2)
          have HB2 := Lib.hid (HBa.out.trans (hb2.mono HBa.out.size))
          have HC2 := Lib.hid hc2
          clear hb2 hc2 HDa HBa HW
          obtain ⟨c0, c1, c2, c3, c4, c5, c6, c7⟩ := HD2.out.mat.all
          have f0 := HD2.out.free 0
          have f1 := HD2.out.free 1
          have f2 := HD2.out.free 2
          have f3 := HD2.out.free 3
          have f4 := HD2.out.free 4
          have f5 := HD2.out.free 5
          have f6 := HD2.out.free 6
          have f7 := HD2.out.free 7
          go_wp2
          have hS := HD2.out.eight M.zero
          obtain ⟨k0, k1, k2, k3, k4, k5, k6, k7⟩ := hS.mat.all
          have HCS := Lib.hid (HC2.out.eight HD2.out M.zero)
          have HBS := Lib.hid (below_eight HB2.out (Nat.le_refl _) M.zero)
          clear c0 c1 c2 c3 c4 c5 c6 c7 f0 f1 f2 f3 f4 f5 f6 f7 hS HD2
          refine bodyPost_ret (v := .tuple #[(M.zero).val, v2]) (by simp [results, Tryd.results12, go_sem, k0, k1, k2, k3, k4, k5, k6, k7]) rfl ?_
          rw [HOM.out, HOE.out]
          exact ⟨v2, rfl, HCS.out, HBS.out⟩
      · by_cases h8 : i = 7
        · have hiK : i = 7 := by omega
          subst hiK
          have lA := hd.stp.lA
          have lB := hd.stp.lB
          have hc := hd.stp.c7
          have hrd := hd.rdr
          rw [rAt_num t 7 (by omega)] at hrd
          have h6 := hd.ok 6 (by omega)
          rw [stepE_num (by omega)] at h6
          have hpz := (numE_ok h6).1
          have HC := Lib.hid (clo2 b R A B (mAt t 7) t wr hd.err hd.stp.cB hd.stp.cA hd.mb hrd hpz (by omega) (by omega) (by omega) (by omega) (by omega) (by omega))
          clear hrd hpz h6
          clear hd
          go_wp2_with fail
          go_at_call 54
          refine HC.out.mono ?_
          rintro e wa ⟨v, rfl, hch, hgo, hf⟩
          rw [← stepE_7 t] at hch hgo
          by_cases he : stepE t 7 = []
          · obtain ⟨hm, hr⟩ := hgo he
            rw [he] at hch
            obtain rfl : v = .nilIface := hch
            have HN := Lib.hid (HD.out.next hlt hf he (by rw [mAt_8]; exact hm) (by rw [rAt_more t 8 (by omega)]; exact hr) (by omega) (by omega) (by omega) (by omega))
            clear HC HD hgo hf hm hr he
            go_wp2
            go_roundw
            case rel => exact ⟨8, by go_num, HN.out⟩
            case measure => simp [intOf]
          · obtain ⟨hoM, hoE⟩ := out_bad hlt he HD.out.ok
            have HDa := Lib.hid (HD.out.res.fr hf (by omega) (by simp; omega))
            have HBa := Lib.hid (HD.out.below.trans (below_fr hf (by omega) (by omega) HD.out.below.size))
            have HW := Lib.hid (wrap_new 30 0 v (stepE t 7) wa (by decide) hch)
            have HOM := Lib.hid hoM
            have HOE := Lib.hid hoE
            have hv : ∃ ty x, v = .iface ty x := by
              cases hse : stepE t 7 with
              | nil => exact absurd hse he
              | cons x xs => rw [hse] at hch; obtain ⟨b', o', u', rfl, _⟩ := hch; exact ⟨_, _, rfl⟩
            obtain ⟨ty, x, rfl⟩ := hv
            clear HC HD hgo hf hch hoM hoE he
            go_wp2_with fail
            go_at_call 30
            refine HW.out.mono ?_
            rintro e wb ⟨v2, rfl, hc2, hb2⟩
            have HD2 := Lib.hid (HDa.out.below hb2)
            have HB2 := Lib.hid (HBa.out.trans (hb2.mono HBa.out.size))
            have HC2 := Lib.hid hc2
            clear hb2 hc2 HDa HBa HW
            obtain ⟨c0, c1, c2, c3, c4, c5, c6, c7⟩ := HD2.out.mat.all
            have f0 := HD2.out.free 0
            have f1 := HD2.out.free 1
            have f2 := HD2.out.free 2
            have f3 := HD2.out.free 3
            have f4 := HD2.out.free 4
            have f5 := HD2.out.free 5
            have f6 := HD2.out.free 6
            have f7 := HD2.out.free 7
            go_wp2
            have hS := HD2.out.eight M.zero
            obtain ⟨k0, k1, k2, k3, k4, k5, k6, k7⟩ := hS.mat.all
            have HCS := Lib.hid (HC2.out.eight HD2.out M.zero)
            have HBS := Lib.hid (below_eight HB2.out (Nat.le_refl _) M.zero)
            clear c0 c1 c2 c3 c4 c5 c6 c7 f0 f1 f2 f3 f4 f5 f6 f7 hS HD2
            refine bodyPost_ret (v := .tuple #[(M.zero).val, v2]) (by simp [results, Tryd.results12, go_sem, k0, k1, k2, k3, k4, k5, k6, k7]) rfl ?_
            rw [HOM.out, HOE.out]
            exact ⟨v2, rfl, HCS.out, HBS.out⟩
        · by_cases h9 : i = 8
          · have hiK : i = 8 := by omega
            subst hiK
            have lA := hd.stp.lA
            have lB := hd.stp.lB
            have hc := hd.stp.c8
            have hrd := hd.rdr
            rw [rAt_more t 8 (by omega)] at hrd
            have h6 := hd.ok 7 (by omega)
            rw [stepE_7] at h6
            have HC := Lib.hid (rend_t R t wr hrd h6 (by omega))
            clear hrd h6
            clear hd
            go_wp2_with fail
            go_at_call 56
            refine HC.out.mono ?_
            rintro e wa ⟨v, rfl, hch, hbb⟩
            rw [← stepE_8 t] at hch
            have hf : Fr b (some R) wr wa := Fr.ofBelow hbb
            have hgo : stepE t 8 = [] → MB wa b (mAt t 8) ∧ Rdr wa R t (rAt t 8) := fun _ => ⟨HD.out.mb.below hbb, HD.out.rdr.below hbb⟩
            clear hbb
            by_cases he : stepE t 8 = []
            · obtain ⟨hm, hr⟩ := hgo he
              rw [he] at hch
              obtain rfl : v = .nilIface := hch
              have HN := Lib.hid (HD.out.next hlt hf he (by rw [mAt_9]; exact hm) (by rw [rAt_more t 9 (by omega), ← rAt_more t 8 (by omega)]; exact hr) (by omega) (by omega) (by omega) (by omega))
              clear HC HD hgo hf hm hr he
              go_wp2
              go_roundw
              case rel => exact ⟨9, by go_num, HN.out⟩
              case measure => simp [intOf]
            · obtain ⟨hoM, hoE⟩ := out_bad hlt he HD.out.ok
              have HDa := Lib.hid (HD.out.res.fr hf (by omega) (by simp; omega))
              have HBa := Lib.hid (HD.out.below.trans (below_fr hf (by omega) (by omega) HD.out.below.size))
              have HW := Lib.hid (wrap_new 30 0 v (stepE t 8) wa (by decide) hch)
              have HOM := Lib.hid hoM
              have HOE := Lib.hid hoE
              have hv : ∃ ty x, v = .iface ty x := by
                cases hse : stepE t 8 with
                | nil => exact absurd hse he
                | cons x xs => rw [hse] at hch; obtain ⟨b', o', u', rfl, _⟩ := hch; exact ⟨_, _, rfl⟩
              obtain ⟨ty, x, rfl⟩ := hv
              clear HC HD hgo hf hch hoM hoE he
              go_wp2_with fail
              go_at_call 30
              refine HW.out.mono ?_
              rintro e wb ⟨v2, rfl, hc2, hb2⟩
              have HD2 := Lib.hid (HDa.out.below hb2)
              have HB2 := Lib.hid (HBa.out.trans (hb2.mono HBa.out.size))
              have HC2 := Lib.hid hc2
              clear hb2 hc2 HDa HBa HW
              obtain ⟨c0, c1, c2, c3, c4, c5, c6, c7⟩ := HD2.out.mat.all
              have f0 := HD2.out.free 0
              have f1 := HD2.out.free 1
              have f2 := HD2.out.free 2
              have f3 := HD2.out.free 3
              have f4 := HD2.out.free 4
              have f5 := HD2.out.free 5
              have f6 := HD2.out.free 6
              have f7 := HD2.out.free 7
              go_wp2
              have hS := HD2.out.eight M.zero
              obtain ⟨k0, k1, k2, k3, k4, k5, k6, k7⟩ := hS.mat.all
              have HCS := Lib.hid (HC2.out.eight HD2.out M.zero)
              have HBS := Lib.hid (below_eight HB2.out (Nat.le_refl _) M.zero)
              clear c0 c1 c2 c3 c4 c5 c6 c7 f0 f1 f2 f3 f4 f5 f6 f7 hS HD2
              refine bodyPost_ret (v := .tuple #[(M.zero).val, v2]) (by simp [results, Tryd.results12, go_sem, k0, k1, k2, k3, k4, k5, k6, k7]) rfl ?_
              rw [HOM.out, HOE.out]
              exact ⟨v2, rfl, HCS.out, HBS.out⟩
          · have hiK : i = 9 := by omega
            subst hiK
            have lA := hd.stp.lA
            have lB := hd.stp.lB
            have hc := hd.stp.c9
            have hmb := hd.mb
            rw [mAt_9, mAt_msg] at hmb
            have HC := Lib.hid (clo3 b A (msgOf t) wr hd.stp.cA hmb)
            clear hmb
            clear hd
            go_wp2_with fail
            go_at_call 57
            refine HC.out.mono ?_
            rintro e wa ⟨v, rfl, hch, hbb⟩
            rw [← stepE_9 t] at hch
            have hf : Fr b (some R) wr wa := Fr.ofBelow hbb
            have hgo : stepE t 9 = [] → MB wa b (mAt t 9) ∧ Rdr wa R t (rAt t 9) := fun _ => ⟨HD.out.mb.below hbb, HD.out.rdr.below hbb⟩
            clear hbb
            by_cases he : stepE t 9 = []
            · obtain ⟨hm, hr⟩ := hgo he
              rw [he] at hch
              obtain rfl : v = .nilIface := hch
              have HN := Lib.hid (HD.out.next hlt hf he (by rw [mAt_10]; exact hm) (by rw [rAt_more t 10 (by omega), ← rAt_more t 9 (by omega)]; exact hr) (by omega) (by omega) (by omega) (by omega))
              clear HC HD hgo hf hm hr he
              go_wp2
              go_roundw
              case rel => exact ⟨10, by go_num, HN.out⟩
              case measure => simp [intOf]
            · obtain ⟨hoM, hoE⟩ := out_bad hlt he HD.out.ok
              have HDa := Lib.hid (HD.out.res.fr hf (by omega) (by simp; omega))
              have HBa := Lib.hid (HD.out.below.trans (below_fr hf (by omega) (by omega) HD.out.below.size))
              have HW := Lib.hid (wrap_new 30 0 v (stepE t 9) wa (by decide) hch)
              have HOM := Lib.hid hoM
              have HOE := Lib.hid hoE
              have hv : ∃ ty x, v = .iface ty x := by
                cases hse : stepE t 9 with
                | nil => exact absurd hse he
                | cons x xs => rw [hse] at hch; obtain ⟨b', o', u', rfl, _⟩ := hch; exact ⟨_, _, rfl⟩
              obtain ⟨ty, x, rfl⟩ := hv
              clear HC HD hgo hf hch hoM hoE he
              go_wp2_with fail
              go_at_call 30
              refine HW.out.mono ?_
              rintro e wb ⟨v2, rfl, hc2, hb2⟩
              have HD2 := Lib.hid (HDa.out.below hb2)
              have HB2 := Lib.hid (HBa.out.trans (hb2.mono HBa.out.size))
              have HC2 := Lib.hid hc2
              clear hb2 hc2 HDa HBa HW
              obtain ⟨c0, c1, c2, c3, c4, c5, c6, c7⟩ := HD2.out.mat.all
              have f0 := HD2.out.free 0
              have f1 := HD2.out.free 1
              have f2 := HD2.out.free 2
              have f3 := HD2.out.free 3
              have f4 := HD2.out.free 4
              have f5 := HD2.out.free 5
              have f6 := HD2.out.free 6
              have f7 := HD2.out.free 7
              go_wp2
              have hS := HD2.out.eight M.zero
              obtain ⟨k0, k1, k2, k3, k4, k5, k6, k7⟩ := hS.mat.all
              have HCS := Lib.hid (HC2.out.eight HD2.out M.zero)
              have HBS := Lib.hid (below_eight HB2.out (Nat.le_refl _) M.zero)
              clear c0 c1 c2 c3 c4 c5 c6 c7 f0 f1 f2 f3 f4 f5 f6 f7 hS HD2
              refine bodyPost_ret (v := .tuple #[(M.zero).val, v2]) (by simp [results, Tryd.results12, go_sem, k0, k1, k2, k3, k4, k5, k6, k7]) rfl ?_
              rw [HOM.out, HOE.out]
              exact ⟨v2, rfl, HCS.out, HBS.out⟩
    · have hiK : i = 10 := by omega
      subst hiK
      obtain ⟨hoM, hoE⟩ := out_ok hd.ok
      have HOM := Lib.hid hoM
      have HOE := Lib.hid hoE
      have hmb := hd.mb
      rw [mAt_10, mAt_9, mAt_msg] at hmb
      obtain ⟨n0, n1, n2, n3, n4, n5, n6, n7⟩ := hmb.mat.all
      have HD2 := Lib.hid hd.res
      have HB2 := Lib.hid hd.below
      have HC2 := Lib.hid (show Chained wr .nilIface [] from rfl)
      clear hd HD hoM hoE hmb
      obtain ⟨c0, c1, c2, c3, c4, c5, c6, c7⟩ := HD2.out.mat.all
      have f0 := HD2.out.free 0
      have f1 := HD2.out.free 1
      have f2 := HD2.out.free 2
      have f3 := HD2.out.free 3
      have f4 := HD2.out.free 4
      have f5 := HD2.out.free 5
      have f6 := HD2.out.free 6
      have f7 := HD2.out.free 7
      go_wp2
      have hS := HD2.out.eight (msgOf t)
      obtain ⟨k0, k1, k2, k3, k4, k5, k6, k7⟩ := hS.mat.all
      have HCS := Lib.hid (HC2.out.eight HD2.out (msgOf t))
      have HBS := Lib.hid (below_eight HB2.out (Nat.le_refl _) (msgOf t))
      clear c0 c1 c2 c3 c4 c5 c6 c7 f0 f1 f2 f3 f4 f5 f6 f7 hS HD2
      refine bodyPost_ret (v := .tuple #[(msgOf t).val, .nilIface]) (by simp [results, Tryd.results12, go_sem, k0, k1, k2, k3, k4, k5, k6, k7]) rfl ?_
      rw [HOM.out, HOE.out]
      exact ⟨.nilIface, rfl, HCS.out, HBS.out⟩
end Go.Proofs.YtjgicapjbibioaaDoor
