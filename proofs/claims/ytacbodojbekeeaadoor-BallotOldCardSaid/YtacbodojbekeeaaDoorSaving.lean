/-
  What is kept while an acceptor is written: its writer, what was there ahead, the vote that is being written.
-/
import Derived.Test.YtacbodojbekeeaaDoorAcp3
namespace Go.Proofs.YtacbodojbekeeaaDoor
open Go.RowKit

/-- What is written behind k votes. -/
def preOf (A : Acc) (k : Nat) : List Int := leb A.p 8 ++ leb (A.l.length : Int) 2 ++ encL (A.l.take k)
theorem preOf_zero (A : Acc) : preOf A 0 = leb A.p 8 ++ leb (A.l.length : Int) 2 := by simp [preOf, encL]
theorem preOf_all (A : Acc) : preOf A A.l.length = bodyOf A := by simp [preOf, bodyOf]
theorem preOf_succ (A : Acc) (k : Nat) (v : V) (h : A.l[k]? = some v) : preOf A k ++ leb v.s 2 ++ leb v.b 8 ++ leb (v.x.size : Int) 2 ++ nums v.x = preOf A (k + 1) := by
  unfold preOf
  rw [List.take_add_one, h, Option.toList_some, encL_snoc, encV]
  simp only [List.append_assoc]
theorem preOf_len (A : Acc) (h : A.Good) (k : Nat) : (preOf A k).length ≤ 4243466 := by
  have h1 := encL_len (A.l.take k) fun v hv => (h.ok v (List.mem_of_mem_take hv)).2.2
  have h2 := h.len
  have h3 : (A.l.take k).length ≤ A.l.length := by rw [List.length_take]; omega
  unfold preOf
  rw [List.length_append, List.length_append, leb_len _ _ (by omega), leb_len _ _ (by omega)]
  omega

/-- The writer in block b; since w2 nothing of what was there has turned but the writer. -/
structure Sw (w2 : World) (b : Nat) (wr : World) (row : Option Nat) (bs : List Int) : Prop where
  wrt : Wrt wr b row bs
  row : ∀ q, row = some q → w2.heap.size ≤ q
  fb : Fb b w2 wr
theorem Sw.below {w2 wr wr' : World} {b : Nat} {row : Option Nat} {bs : List Int} (h : Sw w2 b wr row bs) (hb : Below wr.heap.size wr wr') : Sw w2 b wr' row bs := ⟨h.wrt.below hb, h.row, h.fb.then_below hb⟩
theorem Sw.step {w2 wr wr' : World} {b : Nat} {row row' : Option Nat} {bs bs' : List Int} (h : Sw w2 b wr row bs) (hw : Wrt wr' b row' bs') (hr : RowOk row row' wr) (hf : Fr b row wr wr') : Sw w2 b wr' row' bs' := by
  have hz := h.fb.size
  refine ⟨hw, fun q hq => ?_, hf.os.trans h.fb.os, hf.tape.trans h.fb.tape, hf.output.trans h.fb.output, Nat.le_trans hz hf.size, fun k hk h1 _ => ?_⟩
  · rcases hr with rfl | ⟨g, e, hg⟩
    · exact h.row q hq
    · rw [e] at hq; injection hq with hq; omega
  · rw [hf.block k (by omega) h1 (fun e => by have := h.row k e.symm; omega)]
    exact h.fb.block k hk h1 (by simp)
/-- And the vote x, that lies in a block of its own. -/
structure Sv (w2 : World) (b z : Nat) (x : V) (wr : World) (row : Option Nat) (bs : List Int) : Prop where
  sw : Sw w2 b wr row bs
  nz : ∀ q, row = some q → q ≠ z
  ne : z ≠ b
  av : AV 32 wr z x
theorem Sw.open_ {w2 wr : World} {b : Nat} {row : Option Nat} {bs : List Int} (h : Sw w2 b wr row bs) (x : V) : Sv w2 b wr.heap.size x (wr.alloc (.cells x.cells 32)) row bs :=
  ⟨h.below ((Below.refl _ _).alloc (Nat.le_refl _) _), fun _ hq => Nat.ne_of_lt (h.wrt.row_lt hq).2, Nat.ne_of_gt h.wrt.lt, AV.fresh _ _ _⟩
theorem Sv.step {w2 wr wr' : World} {b z : Nat} {x : V} {row row' : Option Nat} {bs bs' : List Int} (h : Sv w2 b z x wr row bs) (hw : Wrt wr' b row' bs') (hr : RowOk row row' wr) (hf : Fr b row wr wr') : Sv w2 b z x wr' row' bs' := by
  have hl := h.av.lt
  refine ⟨h.sw.step hw hr hf, fun q hq => ?_, h.ne, h.av.of_block (hf.block z hl h.ne (fun e => h.nz z e.symm rfl))⟩
  rcases hr with rfl | ⟨g, e, hg⟩
  · exact h.nz q hq
  · rw [e] at hq; injection hq with hq; omega

set_option maxRecDepth 100000 in
set_option maxHeartbeats 4000000 in
theorem save_any (a : Nat) (A : Acc) (w : World) (h : PA w a A) (hT : Tab w) :
    Calls Tryd.prog 19 #[.pointer (some ⟨a, 0, none⟩)] w fun e w' => e = .returned (.string (saveOf A)) ∧ Below w.heap.size w w' := by
  have HG := Lib.hid h.good
  have HP := Lib.hid h.pc
  have HT := Lib.hid hT
  have HV := Lib.hid (fun W hW => votes_any a A.p A.l W hW HG.out.srt)
  have hlen := h.good.len
  have hp0 := h.good.p0
  have hp1 := h.good.p1
  have HPL := Lib.hid (preOf_len A h.good)
  clear h hT
  obtain ⟨p, l⟩ := A
  have hlen' : l.length ≤ 4096 := hlen
  have hp0' : 0 ≤ p := hp0
  have hp1' : p ≤ 1099511627776 := hp1
  clear hlen hp0 hp1
  go_enter Tryd.func19, Tryd.ntmps19
  go_wp2_with fail
  go_at_call 36
  refine (newWriter w).mono ?_
  rintro e w1 ⟨rfl, hw1, hb1, hz1⟩
  have HW1 := Lib.hid hw1
  have HB1 := Lib.hid hb1
  have HP1 := Lib.hid (HP.out.below hb1)
  clear hw1 hb1 HP
  generalize hB : w.heap.size = b at *
  go_wp2_with fail
  go_at_call 22
  refine (HV.out _ HP1.out).mono ?_
  rintro e w2 ⟨v, rfl, ho, hb2⟩
  have HP2 := Lib.hid (HP1.out.below hb2)
  have HB2 := Lib.hid (HB1.out.trans (hb2.mono (Nat.le_of_lt hz1)))
  obtain ⟨Av, cv, rfl, hcv⟩ := vshape ho
  have HAv := Lib.hid (fun (i : Nat) (m : V) (hi : l[i]? = some m) => (show ∃ g, Av = some ⟨g, 0, none⟩ ∧ g < w2.heap.size ∧ g ≠ b ∧ VAt w2 g (i * 3) m from by
    obtain ⟨g, e, h1, h2⟩ := hcv i m hi
    refine ⟨g, e, h1, ?_, h2⟩
    have := (ho.lt (g := g) (by rw [e]; rfl)).1
    omega))
  have HS2 := Lib.hid (show Sw w2 b w2 none [] from ⟨HW1.out.below hb2, fun _ hq => (by cases hq), Fb.same⟩)
  have hz2 := hb2.size
  clear ho hb2 hcv HP1 HW1 HB1 HV
  have c0 := HP2.out.c0
  go_wp2_with fail
  go_at_call 37
  refine (num_ok b none [] p 8 _ (by unfold Fits; omega) HS2.out.wrt (by simp)).mono ?_
  rintro e w3 ⟨rfl, r3, k1, k2, k3⟩
  have HS3 := Lib.hid (HS2.out.step k1 k2 k3)
  clear k1 k2 k3 HS2 c0
  go_wp2_with fail
  go_at_call 37
  refine (num_ok b r3 _ (l.length : Int) 2 _ (by unfold Fits; omega) HS3.out.wrt (by simp [leb])).mono ?_
  rintro e w4 ⟨rfl, r4, k1, k2, k3⟩
  have hs4 := HS3.out.step k1 k2 k3
  rw [show [] ++ leb p (Int.toNat 8) ++ leb (l.length : Int) (Int.toNat 2) = preOf ⟨p, l⟩ 0 from (preOf_zero ⟨p, l⟩).symm] at hs4
  have HS4 := Lib.hid hs4
  clear k1 k2 k3 hs4 HS3
  go_wp2
  go_loopw [22] (fun iv wr => ∃ (k : Nat) (row : Option Nat), k ≤ l.length ∧ iv = .int .i64 k ∧ Sw w2 b wr row (preOf ⟨p, l⟩ k)) (fun iv _ => l.length - (RowKit.intOf iv).toNat)
  case atStart => exact ⟨0, r4, Nat.zero_le _, rfl, HS4.out⟩
  case round =>
    obtain ⟨k, row, hk, rfl, hs⟩ := hrel
    have HS := Lib.hid hs
    clear hs HS4
    by_cases hlt : k < l.length
    · have hkI : (k : Int) < (l.length : Int) := by omega
      have hk0 : (0 : Int) ≤ (k : Int) := by omega
      obtain ⟨x, hx⟩ : ∃ x, l[k]? = some x := ⟨_, List.getElem?_eq_getElem hlt⟩
      obtain ⟨g, rfl, hg, hgb, hv⟩ := HAv.out k x hx
      obtain ⟨d0, d1, d2⟩ := hv.of_block (HS.out.fb.block g hg hgb (by simp))
      have ho := HG.out.ok x (List.mem_of_getElem? hx)
      have hm := HG.out.srt.mem x (List.mem_of_getElem? hx)
      have HO := Lib.hid ho
      have HM := Lib.hid hm
      have HSu := Lib.hid (preOf_succ ⟨p, l⟩ k x hx)
      have HSv := Lib.hid (HS.out.open_ x)
      have HL := Lib.hid (HPL.out k)
      clear hv hx HAv ho hm
      go_wp2_with fail
      generalize hz : wr.heap.size = z at HSv ⊢
      obtain ⟨e0, e1, e2⟩ := HSv.out.av.all
      go_at_call 37
      refine (num_ok b row _ x.s 2 _ (by have := HM.out; unfold Fits; omega) HSv.out.sw.wrt (by have := HL.out; omega)).mono ?_
      rintro e w5 ⟨rfl, r5, k1, k2, k3⟩
      have HS5 := Lib.hid (HSv.out.step k1 k2 k3)
      clear k1 k2 k3 HSv e0 e1 e2 d0 d1 d2
      obtain ⟨e0, e1, e2⟩ := HS5.out.av.all
      go_wp2_with fail
      go_at_call 37
      refine (num_ok b r5 _ x.b 8 _ (by have := HO.out; unfold Fits; omega) HS5.out.sw.wrt (by have := HL.out; simp [leb]; omega)).mono ?_
      rintro e w6 ⟨rfl, r6, k1, k2, k3⟩
      have HS6 := Lib.hid (HS5.out.step k1 k2 k3)
      clear k1 k2 k3 HS5 e0 e1 e2
      obtain ⟨e0, e1, e2⟩ := HS6.out.av.all
      go_wp2_with fail
      go_at_call 38
      refine (text_ok b r6 _ x.x _ HO.out.2.2 HS6.out.sw.wrt (by have := HL.out; simp [leb]; omega)).mono ?_
      rintro e w7 ⟨rfl, r7, k1, k2, k3⟩
      have hs7 := (HS6.out.step k1 k2 k3).sw
      have hsu := HSu.out
      have hs8 : Sw w2 b w7 r7 (preOf ⟨p, l⟩ (k + 1)) := by rw [← hsu]; exact hs7
      have HS8 := Lib.hid hs8
      clear k1 k2 k3 HS6 e0 e1 e2 hs7 hsu hs8
      go_wp2
      go_roundw
      case rel => exact ⟨k + 1, r7, by omega, by go_num, HS8.out⟩
      case measure => simp only [RowKit.intOf]; omega
    · obtain rfl : k = l.length := by omega
      have hlI : ¬ ((l.length : Int) < (l.length : Int)) := by omega
      have hs := HS.out
      rw [show preOf ⟨p, l⟩ l.length = bodyOf ⟨p, l⟩ from preOf_all ⟨p, l⟩] at hs
      have HSb := Lib.hid hs
      have hbz := HB2.out.trans (hs.fb.below (Nat.le_refl b) (by omega))
      have HBz := Lib.hid hbz
      have HTz := Lib.hid (HT.out.below (by rw [hB]; exact hbz))
      have HLn := Lib.hid HG.out.body_len
      clear hs hbz HAv
      go_wp2_with fail
      go_at_call 40
      refine (bytes_any b row _ _ HSb.out.wrt).mono ?_
      rintro e w8 ⟨rfl, rfl⟩
      go_wp2_with fail
      go_at_call 39
      refine (seal_any _ _ HTz.out (by rw [strOfNums_size]; have := HLn.out; omega)).mono ?_
      rintro e w9 ⟨rfl, hb9⟩
      go_wp2
      go_ret
      exact ⟨rfl, by rw [hB]; exact HBz.out.trans (hb9.mono (by have := HBz.out.size; have := HSb.out.wrt.lt; omega))⟩
end Go.Proofs.YtacbodojbekeeaaDoor
