/-
  Choose of the document's own (weirkeepref10), by a contract.
-/
import Derived.Test.YtkcbmkedhipgeaaGreatDoorCho
namespace Go.Proofs.YtkcbmkedhipgeaaGreatDoor
open Go.RowKit

set_option maxRecDepth 100000 in
set_option maxHeartbeats 4000000 in
theorem rchoose_any {A : Option Addr} {n c : Nat} {B : Nat → Option Addr} {L C : Nat → Nat} {z : Nat → Nat → V} (sl : Int) (w : World) (h : Sets w A n B L C z) (hn : n ≤ 9223372036854775807) :
    Calls Tryz.prog 50 #[.slice A n c, .int .i64 sl] w fun e w' => e = .returned (.tuple #[((cho (cat L z n) sl).getD V.zero).val, .bool (cho (cat L z n) sl).isSome]) ∧ Below w.heap.size w w' := by
  have HS := Lib.hid h
  obtain ⟨R, hR⟩ : ∃ R, cho (cat L z n) sl = R := ⟨_, rfl⟩
  rw [hR]
  have HRv := Lib.hid hR
  clear hR
  have hba : Below w.heap.size w (w.alloc (.cells #[.int .i64 0, .int .i64 0, .string ⟨#[]⟩] 78)) := (Below.refl _ _).alloc (Nat.le_refl _) _
  have hbb : Below (w.alloc (.cells #[.int .i64 0, .int .i64 0, .string ⟨#[]⟩] 78)).heap.size (w.alloc (.cells #[.int .i64 0, .int .i64 0, .string ⟨#[]⟩] 78)) ((w.alloc (.cells #[.int .i64 0, .int .i64 0, .string ⟨#[]⟩] 78)).alloc (.cells #[.int .i64 0, .int .i64 0, .string ⟨#[]⟩] 78)) := (Below.refl _ _).alloc (Nat.le_refl _) _
  have HR0 := Lib.hid (AV.below (show AV 78 (w.alloc (.cells #[.int .i64 0, .int .i64 0, .string ⟨#[]⟩] 78)) w.heap.size V.zero from AV.fresh 78 w V.zero) hbb)
  have HB0 := Lib.hid (show AV 78 ((w.alloc (.cells #[.int .i64 0, .int .i64 0, .string ⟨#[]⟩] 78)).alloc (.cells #[.int .i64 0, .int .i64 0, .string ⟨#[]⟩] 78)) (w.alloc (.cells #[.int .i64 0, .int .i64 0, .string ⟨#[]⟩] 78)).heap.size V.zero from AV.fresh 78 _ V.zero)
  have HW0 := Lib.hid (hba.trans (hbb.mono hba.size))
  have hz1 : (w.alloc (.cells #[.int .i64 0, .int .i64 0, .string ⟨#[]⟩] 78)).heap.size = w.heap.size + 1 := by simp
  have hz2 : w.heap.size + 1 < ((w.alloc (.cells #[.int .i64 0, .int .i64 0, .string ⟨#[]⟩] 78)).alloc (.cells #[.int .i64 0, .int .i64 0, .string ⟨#[]⟩] 78)).heap.size := by simp
  rw [hz1] at HB0
  clear h hba hbb hz1
  go_enter Tryz.func50, Tryz.ntmps50
  go_wp2
  generalize ((w.alloc (.cells #[.int .i64 0, .int .i64 0, .string ⟨#[]⟩] 78)).alloc (.cells #[.int .i64 0, .int .i64 0, .string ⟨#[]⟩] 78)) = w1 at HR0 HB0 HW0 hz2 ⊢
  generalize hZ : w.heap.size = Z at *
  go_loopw [7, 8] (fun fv iv wr => ∃ (i : Nat) (o : Option V) (fo : Bool), i ≤ n ∧ iv = .int .i64 i ∧ fv = .bool fo ∧ fo = o.isSome ∧ o = cho (cat L z i) sl ∧ AV 78 wr (Z + 1) (o.getD V.zero) ∧ AV 78 wr Z V.zero ∧ Fb (Z + 1) w1 wr) (fun _ iv _ => n - (RowKit.intOf iv).toNat)
  case atStart => exact ⟨0, none, false, Nat.zero_le _, rfl, rfl, rfl, rfl, HB0.out, HR0.out, Fb.same⟩
  case round =>
    obtain ⟨i, o, fo, hi, rfl, rfl, hfo, ho, hab, har, hf⟩ := hrel
    have HB := Lib.hid hab
    have HR := Lib.hid har
    have HF := Lib.hid hf
    have HO := Lib.hid ho
    have HFo := Lib.hid hfo
    clear hab har hf ho hfo HR0 HB0
    have hbw := below_fb HW0.out HF.out (Nat.le_succ Z) (by omega)
    have HSr := Lib.hid (HS.out.below (by rw [hZ]; exact hbw))
    by_cases hlt : i < n
    · have hiI : (i : Int) < (n : Int) := by omega
      have hi0 : (0 : Int) ≤ (i : Int) := by omega
      obtain ⟨⟨g, off, rfl, hg, hc⟩, hL, -⟩ := HSr.out i hlt
      obtain ⟨Bi, hBi⟩ : ∃ x, B i = x := ⟨_, rfl⟩
      obtain ⟨Li, hLi⟩ : ∃ x, L i = x := ⟨_, rfl⟩
      obtain ⟨Ci, hCi⟩ : ∃ x, C i = x := ⟨_, rfl⟩
      rw [hBi, hLi, hCi] at hc
      rw [hLi] at hL
      have HBi := Lib.hid hBi
      have HLi := Lib.hid hLi
      have HCi := Lib.hid hCi
      clear hBi hLi hCi
      go_wp2
      go_loopw [7, 9] (fun fv kv wk => ∃ (k : Nat) (o : Option V) (fo : Bool), k ≤ Li ∧ kv = .int .i64 k ∧ fv = .bool fo ∧ fo = o.isSome ∧ o = cho (cat L z i ++ (rowL L z i).take k) sl ∧ AV 78 wk (Z + 1) (o.getD V.zero) ∧ AV 78 wk Z V.zero ∧ Fb (Z + 1) w1 wk) (fun _ kv _ => Li - (RowKit.intOf kv).toNat)
      case atStart => exact ⟨0, o, fo, Nat.zero_le _, rfl, rfl, HFo.out, by rw [HO.out]; simp, HB.out, HR.out, HF.out⟩
      case round =>
        obtain ⟨k, o, fo, hk, rfl, rfl, hfo, ho, hab, har, hf⟩ := hrel
        have KB := Lib.hid hab
        have KR := Lib.hid har
        have KF := Lib.hid hf
        have KO := Lib.hid ho
        have KFo := Lib.hid hfo
        clear hab har hf ho hfo HB HR HO HFo
        have hbk := below_fb HW0.out KF.out (Nat.le_succ Z) (by omega)
        have HSk := Lib.hid (HS.out.below (by rw [hZ]; exact hbk))
        obtain ⟨⟨g2, o2, ee, -, hc2⟩, -, -⟩ := HSk.out i hlt
        injection ee with ee
        injection ee with ee1 ee2 ee3
        subst ee1 ee2
        rw [HBi.out, HLi.out, HCi.out] at hc2
        by_cases hlk : k < Li
        · have hkI : (k : Int) < (Li : Int) := by omega
          have hk0 : (0 : Int) ≤ (k : Int) := by omega
          obtain ⟨-, -, hz⟩ := HSk.out i hlt
          obtain ⟨g', o', e', hg', hv⟩ := hz k (by rw [HLi.out]; exact hlk)
          rw [HBi.out] at e'
          subst e'
          obtain ⟨⟨xs, xb, xx⟩, hx⟩ : ∃ x, z i k = x := ⟨_, rfl⟩
          have hst := cho_row L z i k sl (by rw [HLi.out]; exact hlk)
          rw [hx] at hst hv
          rw [← KO.out] at hst
          have hal : Below wr.heap.size wr (wr.alloc (.cells #[.int .i64 xs, .int .i64 xb, .string xx] 78)) := (Below.refl _ _).alloc (Nat.le_refl _) _
          have AB := Lib.hid (KB.out.below hal)
          have AR := Lib.hid (KR.out.below hal)
          have AF := Lib.hid (KF.out.then_below hal)
          have AX := Lib.hid (show AV 78 (wr.alloc (.cells #[.int .i64 xs, .int .i64 xb, .string xx] 78)) wr.heap.size ⟨xs, xb, xx⟩ from AV.fresh 78 wr ⟨xs, xb, xx⟩)
          obtain ⟨d0, d1, d2⟩ := hv
          clear hx hal hz HSk HSr HS
          go_upto_region 10 with fail
          generalize wr.alloc (.cells #[.int .i64 xs, .int .i64 xb, .string xx] 78) = w5 at AB AR AF AX ⊢
          generalize wr.heap.size = zx at AX ⊢
          obtain ⟨e0, e1, e2⟩ := AX.out.all
          by_cases hs : xs = sl
          · subst hs
            cases o with
            | none =>
              obtain rfl : fo = false := KFo.out
              rw [show stepC xs none ⟨xs, xb, xx⟩ = some ⟨xs, xb, xx⟩ from by unfold stepC; rw [if_pos rfl]] at hst
              have HSt := Lib.hid hst
              clear hst
              obtain ⟨b0, b1, b2⟩ := AB.out.all
              have KBn := Lib.hid (AB.out.set ⟨xs, xb, xx⟩)
              have KRn := Lib.hid (AV.fbo AR.out ((Fb.same (b := Z + 1)).set3 (.int .i64 xs) (.int .i64 xb) (.string xx)) (by omega))
              have KFn := Lib.hid (AF.out.set3 (.int .i64 xs) (.int .i64 xb) (.string xx))
              have f0 := AB.out.free 0
              have f1 := AB.out.free 1
              have f2 := AB.out.free 2
              clear AB AR AF
              go_wp2
              go_roundw
              case rel => exact ⟨k + 1, some ⟨xs, xb, xx⟩, true, by omega, by go_num, rfl, rfl, HSt.out.symm, KBn.out, KRn.out, KFn.out⟩
              case measure => simp only [RowKit.intOf]; omega
            | some u =>
              obtain rfl : fo = true := KFo.out
              obtain ⟨us, ub, ux⟩ := u
              obtain ⟨b0, b1, b2⟩ := AB.out.all
              have b1' : w5.cell? ⟨Z + 1, 1, none⟩ = some (.int .i64 ub) := b1
              clear b1
              by_cases hb : ub < xb
              · rw [show stepC xs (some ⟨us, ub, ux⟩) ⟨xs, xb, xx⟩ = some ⟨xs, xb, xx⟩ from by unfold stepC; rw [if_pos rfl]; simp only; rw [if_pos hb]] at hst
                have HSt := Lib.hid hst
                clear hst
                have KBn := Lib.hid (AB.out.set ⟨xs, xb, xx⟩)
                have KRn := Lib.hid (AV.fbo AR.out ((Fb.same (b := Z + 1)).set3 (.int .i64 xs) (.int .i64 xb) (.string xx)) (by omega))
                have KFn := Lib.hid (AF.out.set3 (.int .i64 xs) (.int .i64 xb) (.string xx))
                have f0 := AB.out.free 0
                have f1 := AB.out.free 1
                have f2 := AB.out.free 2
                clear AB AR AF
                go_wp2
                go_roundw
                case rel => exact ⟨k + 1, some ⟨xs, xb, xx⟩, true, by omega, by go_num, rfl, rfl, HSt.out.symm, KBn.out, KRn.out, KFn.out⟩
                case measure => simp only [RowKit.intOf]; omega
              · rw [show stepC xs (some ⟨us, ub, ux⟩) ⟨xs, xb, xx⟩ = some ⟨us, ub, ux⟩ from by unfold stepC; rw [if_pos rfl]; simp only; rw [if_neg hb]] at hst
                have HSt := Lib.hid hst
                clear hst
                go_wp2
                go_roundw
                case rel => exact ⟨k + 1, some ⟨us, ub, ux⟩, true, by omega, by go_num, rfl, rfl, HSt.out.symm, AB.out, AR.out, AF.out⟩
                case measure => simp only [RowKit.intOf]; omega
          · have hsd : (xs == sl) = false := by simp [hs]
            rw [show stepC sl o ⟨xs, xb, xx⟩ = o from by unfold stepC; rw [if_neg hs]] at hst
            have HSt := Lib.hid hst
            clear hst
            go_wp2
            go_roundw
            case rel => exact ⟨k + 1, o, fo, by omega, by go_num, rfl, KFo.out, HSt.out.symm, AB.out, AR.out, AF.out⟩
            case measure => simp only [RowKit.intOf]; omega
        · obtain rfl : k = Li := by omega
          have hkI : ¬ (k : Int) < (k : Int) := by omega
          clear HSr HS HSk
          go_wp2
          go_roundw
          case rel => exact ⟨i + 1, o, fo, by omega, by go_num, rfl, KFo.out, by rw [KO.out]; have := cho_end L z i sl; rw [HLi.out] at this; exact this, KB.out, KR.out, KF.out⟩
          case measure => simp only [RowKit.intOf]; omega
    · obtain rfl : i = n := by omega
      have hiI : ¬ (i : Int) < (i : Int) := by omega
      obtain rfl : o = R := HO.out.trans HRv.out
      have hfo := HFo.out
      subst hfo
      have hbz := Lib.hid (hbw)
      have HBv := HB.out
      generalize hq : o.getD V.zero = q at HBv HB ⊢
      obtain ⟨c0, c1, c2⟩ := HBv.all
      obtain ⟨r0, r1, r2⟩ := HR.out.all
      have f0 := HR.out.free 0
      have f1 := HR.out.free 1
      have f2 := HR.out.free 2
      have HBz2 := Lib.hid (Fb.below (B := Z) ((Fb.same (b := Z) (w := wr)).set3 (.int .i64 q.s) (.int .i64 q.b) (.string q.x)) (Nat.le_refl _) (by have := hbw.size; omega))
      have HRz := Lib.hid (HR.out.set q)
      clear HBv HS HSr HO HFo HB
      go_wp2
      generalize ((wr.setCell ⟨Z, 0, none⟩ (.int .i64 q.s)).setCell ⟨Z, 1, none⟩ (.int .i64 q.b)).setCell ⟨Z, 2, none⟩ (.string q.x) = wf at HRz HBz2 ⊢
      obtain ⟨r0, r1, r2⟩ := HRz.out.all
      exact bodyPost_ret (v := .tuple #[q.val, .bool o.isSome]) (by simp [results, Tryz.results50, go_sem, r0, r1, r2]) rfl ⟨rfl, hbz.out.trans HBz2.out⟩
end Go.Proofs.YtkcbmkedhipgeaaGreatDoor
