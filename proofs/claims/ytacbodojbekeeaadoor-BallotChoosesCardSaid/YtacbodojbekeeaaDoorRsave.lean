/-
  Save of the document's own acceptor (weirkeepref10), by a contract.
-/
import Derived.Test.YtacbodojbekeeaaDoorSaving
namespace Go.Proofs.YtacbodojbekeeaaDoor
open Go.RowKit

set_option maxRecDepth 100000 in
set_option maxHeartbeats 4000000 in
theorem rsave_any (r : Nat) (A : Acc) (w : World) (h : RC w r A.p A.l) (hG : A.Good) :
    Calls Tryd.prog 21 #[.pointer (some ⟨r, 0, none⟩)] w fun e w' => e = .returned (.string (saveOf A)) ∧ Below w.heap.size w w' := by
  have HG := Lib.hid hG
  have hlen := hG.len
  have hp0 := hG.p0
  have hp1 := hG.p1
  have HPL := Lib.hid (preOf_len A hG)
  have hrl := h.lt
  obtain ⟨c0, Av, cv, c1, -, hcv⟩ := h.form
  have hb1 : Below w.heap.size w (w.alloc (.cells #[.slice none 0 0] 91)) := (Below.refl _ _).alloc (Nat.le_refl _) _
  have HC := Lib.hid (fun (W : World) (hW : Below w.heap.size w W) => (⟨(hW.cell (p := ⟨r, 0, none⟩) hrl).trans c0, (hW.cell (p := ⟨r, 1, none⟩) hrl).trans c1⟩ : W.cell? ⟨r, 0, none⟩ = _ ∧ W.cell? ⟨r, 1, none⟩ = _))
  have HAv := Lib.hid hcv
  have HS1 := Lib.hid (show Sw (w.alloc (.cells #[.slice none 0 0] 91)) w.heap.size (w.alloc (.cells #[.slice none 0 0] 91)) none [] from ⟨⟨.slice none 0 0, by simp, by simp, World.ownsRow_nil _ _ _ _, rfl⟩, fun _ hq => (by cases hq), Fb.same⟩)
  have HB1 := Lib.hid hb1
  have hzz : w.heap.size < (w.alloc (.cells #[.slice none 0 0] 91)).heap.size := by simp
  obtain ⟨d0, d1⟩ := HC.out _ hb1
  clear h hG hcv hb1 c0 c1
  obtain ⟨p, l⟩ := A
  have hlen' : l.length ≤ 4096 := hlen
  have hp0' : 0 ≤ p := hp0
  have hp1' : p ≤ 1099511627776 := hp1
  clear hlen hp0 hp1
  go_enter Tryd.func21, Tryd.ntmps21
  go_wp2_with fail
  generalize w.alloc (.cells #[.slice none 0 0] 91) = w2 at HS1 HB1 hzz d0 d1 ⊢
  generalize hB : w.heap.size = b at *
  go_at_call 44
  refine (refnum_ok b none [] p 8 _ (by unfold Fits; omega) HS1.out.wrt (by simp)).mono ?_
  rintro e w3 ⟨rfl, r3, k1, k2, k3⟩
  have HS3 := Lib.hid (HS1.out.step k1 k2 k3)
  clear k1 k2 k3 HS1 d0 d1
  obtain ⟨d0, d1⟩ := HC.out _ (below_fb HB1.out HS3.out.fb (Nat.le_refl _) (Nat.le_of_lt hzz))
  go_wp2_with fail
  go_at_call 44
  refine (refnum_ok b r3 _ (l.length : Int) 2 _ (by unfold Fits; omega) HS3.out.wrt (by simp [leb])).mono ?_
  rintro e w4 ⟨rfl, r4, k1, k2, k3⟩
  have hs4 := HS3.out.step k1 k2 k3
  rw [show [] ++ leb p (Int.toNat 8) ++ leb (l.length : Int) (Int.toNat 2) = preOf ⟨p, l⟩ 0 from (preOf_zero ⟨p, l⟩).symm] at hs4
  have HS4 := Lib.hid hs4
  clear k1 k2 k3 hs4 HS3 d0 d1
  go_wp2
  go_loopw [4] (fun iv wr => ∃ (k : Nat) (row : Option Nat), k ≤ l.length ∧ iv = .int .i64 k ∧ Sw w2 b wr row (preOf ⟨p, l⟩ k)) (fun iv _ => l.length - (RowKit.intOf iv).toNat)
  case atStart => exact ⟨0, r4, Nat.zero_le _, rfl, HS4.out⟩
  case round =>
    obtain ⟨k, row, hk, rfl, hs⟩ := hrel
    have HS := Lib.hid hs
    have HBr := Lib.hid (below_fb HB1.out hs.fb (Nat.le_refl _) (Nat.le_of_lt hzz))
    clear hs HS4
    obtain ⟨d0, d1⟩ := HC.out _ HBr.out
    by_cases hlt : k < l.length
    · have hkI : (k : Int) < (l.length : Int) := by omega
      have hk0 : (0 : Int) ≤ (k : Int) := by omega
      obtain ⟨x, hx⟩ : ∃ x, l[k]? = some x := ⟨_, List.getElem?_eq_getElem hlt⟩
      obtain ⟨g, rfl, hg, -, hv⟩ := HAv.out k x hx
      have HVc := Lib.hid (fun (W : World) (hW : Below b w W) => hv.below hW hg)
      have HO := Lib.hid (HG.out.ok x (List.mem_of_getElem? hx))
      have HM := Lib.hid (HG.out.srt.mem x (List.mem_of_getElem? hx))
      have HSu := Lib.hid (preOf_succ ⟨p, l⟩ k x hx)
      have HL := Lib.hid (HPL.out k)
      clear hv hx HAv
      obtain ⟨e0, e1, e2⟩ := HVc.out _ HBr.out
      go_wp2_with fail
      go_at_call 44
      refine (refnum_ok b row _ x.s 2 _ (by have := HM.out; unfold Fits; omega) HS.out.wrt (by have := HL.out; omega)).mono ?_
      rintro e w5 ⟨rfl, r5, k1, k2, k3⟩
      have HS5 := Lib.hid (HS.out.step k1 k2 k3)
      have HB5 := Lib.hid (below_fb HB1.out HS5.out.fb (Nat.le_refl _) (Nat.le_of_lt hzz))
      clear k1 k2 k3 HS e0 e1 e2 d0 d1
      obtain ⟨e0, e1, e2⟩ := HVc.out _ HB5.out
      obtain ⟨d0, d1⟩ := HC.out _ HB5.out
      go_wp2_with fail
      go_at_call 44
      refine (refnum_ok b r5 _ x.b 8 _ (by have := HO.out; unfold Fits; omega) HS5.out.wrt (by have := HL.out; simp [leb]; omega)).mono ?_
      rintro e w6 ⟨rfl, r6, k1, k2, k3⟩
      have HS6 := Lib.hid (HS5.out.step k1 k2 k3)
      have HB6 := Lib.hid (below_fb HB1.out HS6.out.fb (Nat.le_refl _) (Nat.le_of_lt hzz))
      clear k1 k2 k3 HS5 e0 e1 e2 d0 d1
      obtain ⟨e0, e1, e2⟩ := HVc.out _ HB6.out
      obtain ⟨d0, d1⟩ := HC.out _ HB6.out
      go_wp2_with fail
      go_at_call 45
      refine (reftext_ok b r6 _ x.x _ HO.out.2.2 HS6.out.wrt (by have := HL.out; simp [leb]; omega)).mono ?_
      rintro e w7 ⟨rfl, r7, k1, k2, k3⟩
      have hs7 := HS6.out.step k1 k2 k3
      have hsu := HSu.out
      have hs8 : Sw w2 b w7 r7 (preOf ⟨p, l⟩ (k + 1)) := by rw [← hsu]; exact hs7
      have HS8 := Lib.hid hs8
      clear k1 k2 k3 HS6 e0 e1 e2 hs7 hsu hs8 d0 d1
      go_wp2
      go_roundw
      case rel => exact ⟨k + 1, r7, by omega, by go_num, HS8.out⟩
      case measure => simp only [RowKit.intOf]; omega
    · obtain rfl : k = l.length := by omega
      have hlI : ¬ ((l.length : Int) < (l.length : Int)) := by omega
      have hs := HS.out
      rw [show preOf ⟨p, l⟩ l.length = bodyOf ⟨p, l⟩ from preOf_all ⟨p, l⟩] at hs
      have HSb := Lib.hid hs
      have HLn := Lib.hid HG.out.body_len
      clear hs HAv HS
      go_wp2_with fail
      go_at_call 47
      refine (refbytes b row _ _ HSb.out.wrt).mono ?_
      rintro e w8 ⟨rfl, rfl⟩
      go_wp2_with fail
      go_at_call 46
      refine (rseal_any _ _ (by rw [strOfNums_size]; have := HLn.out; omega)).mono ?_
      rintro e w9 ⟨rfl, hb9⟩
      go_wp2
      go_ret
      exact ⟨rfl, by rw [hB]; exact HBr.out.trans (hb9.mono (by have := HSb.out.wrt.lt; omega))⟩
end Go.Proofs.YtacbodojbekeeaaDoor
