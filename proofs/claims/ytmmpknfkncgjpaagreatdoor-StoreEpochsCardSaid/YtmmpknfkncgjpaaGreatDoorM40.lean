/-
  Value and Parse, at either side, by contracts; what was read is written again.

  Parse, at either side, by contracts.
-/
import Derived.Test.YtmmpknfkncgjpaaGreatDoorM39
import Derived.Deep.LoopGhost
import Derived.Deep.CutBlock
import Derived.Deep.DeepCutAuto
namespace Go.Proofs.YtmmpknfkncgjpaaGreatDoor
open Go.RowKit Go.Lib Go.PlainAid

theorem nums_drop (t : ByteArray) (a : Nat) : nums (t.extract a t.size) = (nums t).drop a := by
  have h := extract_rest (nums t) a
  rw [str_nums] at h
  rw [h]
  unfold nums strOfNums
  simp only [List.map_map, List.map_drop]
  congr 1
  apply List.map_congr_left
  intro c _
  simp
theorem nums_extract (t : ByteArray) (a e : Nat) : nums (t.extract a e) = ((nums t).drop a).take (e - a) := by
  have h := extract_str (nums t) a e
  rw [str_nums] at h
  rw [h]
  unfold nums strOfNums
  simp only [List.map_map, List.map_drop, List.map_take]
  congr 2
  apply List.map_congr_left
  intro c _
  simp
theorem nums_get (s : ByteArray) (i : Nat) (h : i < s.size) : (nums s)[i]? = some (bt s i) := by
  have hb := byt_nums s
  have hl : i < (nums s).length := by rw [nums_length]; exact h
  have := bt_str (nums s) hb i hl
  rw [str_nums] at this
  rw [this, List.getElem?_eq_getElem hl]
theorem take_bt (s : ByteArray) (k : Nat) (h : k ≤ s.size) : (nums s).take k = (List.range k).map (bt s) := by
  apply List.ext_getElem?
  intro j
  rw [List.getElem?_take, List.getElem?_map]
  by_cases hj : j < k
  · rw [if_pos hj, nums_get s j (by omega), List.getElem?_range hj]; rfl
  · rw [if_neg hj, List.getElem?_eq_none (by simp; omega)]; rfl
theorem leb_lev1 (s : ByteArray) : leb (lev s 1) 1 = (List.range 1).map (bt s) := by
  have g0 := bt_nonneg s 0
  have l0 := bt_le s 0
  simp only [leb, List.take, List.range, List.range.loop, List.map, lev]
  congr 1
  omega
theorem leb_lev2 (s : ByteArray) : leb (lev s 2) 2 = (List.range 2).map (bt s) := by
  have g0 := bt_nonneg s 0
  have l0 := bt_le s 0
  have g1 := bt_nonneg s 1
  have l1 := bt_le s 1
  simp only [leb, List.take, List.range, List.range.loop, List.map, lev]
  congr 1
  · omega
  · congr 1
    omega
theorem leb_lev8 (s : ByteArray) : leb (lev s 8) 8 = (List.range 8).map (bt s) := by
  have g0 := bt_nonneg s 0
  have l0 := bt_le s 0
  have g1 := bt_nonneg s 1
  have l1 := bt_le s 1
  have g2 := bt_nonneg s 2
  have l2 := bt_le s 2
  have g3 := bt_nonneg s 3
  have l3 := bt_le s 3
  have g4 := bt_nonneg s 4
  have l4 := bt_le s 4
  have g5 := bt_nonneg s 5
  have l5 := bt_le s 5
  have g6 := bt_nonneg s 6
  have l6 := bt_le s 6
  have g7 := bt_nonneg s 7
  have l7 := bt_le s 7
  simp only [leb, List.take, List.range, List.range.loop, List.map, lev]
  refine List.cons_eq_cons.2 ⟨by omega, List.cons_eq_cons.2 ⟨by omega, List.cons_eq_cons.2 ⟨by omega, List.cons_eq_cons.2 ⟨by omega, List.cons_eq_cons.2 ⟨by omega, List.cons_eq_cons.2 ⟨by omega, List.cons_eq_cons.2 ⟨by omega, List.cons_eq_cons.2 ⟨by omega, rfl⟩⟩⟩⟩⟩⟩⟩⟩
theorem take_more (l : List Int) (a b : Nat) : l.take a ++ (l.drop a).take b = l.take (a + b) := by
  rw [List.take_add]

theorem valB_par {s : ByteArray} {n : Int} {d : ByteArray} (h : parOf s = some (n, d)) : valB n d = s := by
  obtain ⟨h1, h2, h3, h4⟩ := parOf_fits h
  obtain ⟨a1, a2, -, -⟩ := numAt_some h2
  have e8 : leb n 8 = (nums s).take 8 := by
    rw [a2, leb_lev8, ← take_bt _ 8 (by rw [ByteArray.size_extract]; omega), nums_drop, List.drop_zero]
  have hL := lev_nonneg' (s.extract 8 s.size) 2
  have e2 : lev (s.extract 8 s.size) 2 = (d.size : Int) ∧ nums d = ((nums s).drop 10).take d.size := by
    unfold textAt at h3
    split at h3
    · cases h3
    · split at h3
      · cases h3
      · split at h3
        · cases h3
        · injection h3 with h3
          have hsz : d.size = (lev (s.extract 8 s.size) 2).toNat := by rw [← h3, ByteArray.size_extract]; omega
          have hd : nums d = ((nums s).drop (8 + 2)).take (8 + 2 + (lev (s.extract 8 s.size) 2).toNat - (8 + 2)) := by rw [← h3]; exact nums_extract s _ _
          refine ⟨by omega, ?_⟩
          rw [hd, show 8 + 2 + (lev (s.extract 8 s.size) 2).toNat - (8 + 2) = d.size by omega]
  have e2' : leb (d.size : Int) 2 = ((nums s).drop 8).take 2 := by
    rw [← e2.1, leb_lev2, ← take_bt _ 2 (by rw [ByteArray.size_extract]; omega), nums_drop]
  have e3 : nums d = (nums s).drop 10 := by
    rw [e2.2, List.take_of_length_le (by rw [List.length_drop, nums_length]; omega)]
  unfold valB
  rw [e8, e2', e3, take_more, List.take_append_drop, str_nums]
/-- What Value tells of what was read: s, just where it is a Value. -/
theorem parO_cases (s : ByteArray) (n : Int) (d : ByteArray) (h : ∀ x, parOf s = some x → x = (n, d)) :
    (valE n d = 0 ∧ valB n d = s ∧ parO s = ((n, d), 0)) ∨ (parO s = ((0, ⟨#[]⟩), 30) ∧ ¬ (valE n d = 0 ∧ valB n d = s)) := by
  by_cases hv : valE n d = 0 ∧ valB n d = s
  · refine .inl ⟨hv.1, hv.2, parO_some ?_⟩
    rw [← hv.2]; exact parOf_val hv.1
  · refine .inr ⟨parO_none ?_, hv⟩
    cases hp : parOf s with
    | none => rfl
    | some x =>
      have := h x hp
      subst this
      exact absurd ⟨(parOf_fits hp).1, valB_par hp⟩ hv

/-- The writer in block b; since w2 nothing of what was there has turned but the writer. -/
structure Sw (w2 : World) (b : Nat) (wr : World) (row : Option Nat) (bs : List Int) : Prop where
  wrt : Wrt wr b row bs
  row : ∀ q, row = some q → w2.heap.size ≤ q
  fb : Fb b w2 wr
theorem Sw.below {w2 wr wr' : World} {b : Nat} {row : Option Nat} {bs : List Int} (h : Sw w2 b wr row bs) (hb : Below wr.heap.size wr wr') : Sw w2 b wr' row bs := ⟨h.wrt.below hb, h.row, h.fb.then_below hb⟩
theorem Sw.step {w2 wr wr' : World} {b : Nat} {row row' : Option Nat} {bs bs' : List Int} (h : Sw w2 b wr row bs) (hw : Wrt wr' b row' bs') (hr : RowOk row row' wr) (hf : Fr b row wr wr') : Sw w2 b wr' row' bs' := by
  have hz := h.fb.size
  refine ⟨hw, fun q hq => ?_, hf.os.trans h.fb.os, hf.tape.trans h.fb.tape, hf.output.trans h.fb.output, Nat.le_trans hz hf.size, fun k hk h1 _ => ?_⟩
  · rcases hr with rfl | ⟨g, e, hg⟩
    · exact h.row q hq
    · rw [e] at hq; injection hq with hq; omega
  · rw [hf.block k (by omega) h1 (fun e => by have := h.row k e.symm; omega)]
    exact h.fb.block k hk h1 (by simp)

set_option maxRecDepth 100000 in
set_option maxHeartbeats 4000000 in
theorem value_any (ver : Int) (d : ByteArray) (w : World) :
    Calls Tryz.prog 19 #[.int .i64 ver, .string d] w fun e w' => e = .returned (.tuple #[.string (valO ver d).1, .int .i64 (valO ver d).2]) ∧ Below w.heap.size w w' := by
  unfold valO
  by_cases h1 : ver < 0
  · rw [show valE ver d = 1 by unfold valE; rw [if_neg (by omega)]]
    go_enter Tryz.func19, Tryz.ntmps19
    go_wp2
    go_ret2
    exact ⟨rfl, Below.refl _ _⟩
  by_cases h2 : 1099511627776 < ver
  · rw [show valE ver d = 1 by unfold valE; rw [if_neg (by omega)]]
    go_enter Tryz.func19, Tryz.ntmps19
    go_wp2
    go_ret2
    exact ⟨rfl, Below.refl _ _⟩
  by_cases h3 : (16 : Int) < (d.size : Int)
  · rw [show valE ver d = 11 by unfold valE; rw [if_pos (by omega), if_neg (by omega)]]
    go_enter Tryz.func19, Tryz.ntmps19
    go_wp2
    go_ret2
    exact ⟨rfl, Below.refl _ _⟩
  rw [valE_ok (by omega) (by omega) (by omega), if_pos rfl]
  go_enter Tryz.func19, Tryz.ntmps19
  go_wp2_with fail
  go_at_call 43
  refine (newWriter w).mono ?_
  rintro e w1 ⟨rfl, hw1, hb1, hz1⟩
  have HS1 := Lib.hid (show Sw w1 w.heap.size w1 none [] from ⟨hw1, fun _ hq => (by cases hq), Fb.same⟩)
  have HB1 := Lib.hid hb1
  clear hw1 hb1
  generalize hB : w.heap.size = b at *
  go_wp2_with fail
  go_at_call 44
  refine (num_ok b none [] ver 8 _ (by unfold Fits; omega) HS1.out.wrt (by simp)).mono ?_
  rintro e w2 ⟨rfl, r2, k1, k2, k3⟩
  have HS2 := Lib.hid (HS1.out.step k1 k2 k3)
  clear k1 k2 k3 HS1
  go_wp2_with fail
  go_at_call 45
  refine (text_ok b r2 _ d _ (by omega) HS2.out.wrt (by simp [leb])).mono ?_
  rintro e w3 ⟨rfl, r3, k1, k2, k3⟩
  have HS3 := Lib.hid (HS2.out.step k1 k2 k3)
  clear k1 k2 k3 HS2
  go_wp2_with fail
  go_at_call 46
  refine (bytes_any b r3 _ _ HS3.out.wrt).mono ?_
  rintro e w4 ⟨rfl, rfl⟩
  go_wp2
  go_ret2
  exact ⟨rfl, by rw [hB]; exact below_fb HB1.out HS3.out.fb (Nat.le_refl _) (Nat.le_of_lt hz1)⟩

set_option maxRecDepth 100000 in
set_option maxHeartbeats 4000000 in
theorem rvalue_any (ver : Int) (d : ByteArray) (w : World) :
    Calls Tryz.prog 20 #[.int .i64 ver, .string d] w fun e w' => e = .returned (.tuple #[.string (valO ver d).1, .int .i64 (valO ver d).2]) ∧ Below w.heap.size w w' := by
  unfold valO
  by_cases h1 : ver < 0
  · rw [show valE ver d = 1 by unfold valE; rw [if_neg (by omega)]]
    go_enter Tryz.func20, Tryz.ntmps20
    go_wp2
    go_ret2
    exact ⟨rfl, Below.refl _ _⟩
  by_cases h2 : 1099511627776 < ver
  · rw [show valE ver d = 1 by unfold valE; rw [if_neg (by omega)]]
    go_enter Tryz.func20, Tryz.ntmps20
    go_wp2
    go_ret2
    exact ⟨rfl, Below.refl _ _⟩
  by_cases h3 : (16 : Int) < (d.size : Int)
  · rw [show valE ver d = 11 by unfold valE; rw [if_pos (by omega), if_neg (by omega)]]
    go_enter Tryz.func20, Tryz.ntmps20
    go_wp2
    go_ret2
    exact ⟨rfl, Below.refl _ _⟩
  rw [valE_ok (by omega) (by omega) (by omega), if_pos rfl]
  have HS1 := Lib.hid (show Sw (w.alloc (.cells #[.slice none 0 0] 99)) w.heap.size (w.alloc (.cells #[.slice none 0 0] 99)) none [] from ⟨⟨.slice none 0 0, by simp, by simp, World.ownsRow_nil _ _ _ _, rfl⟩, fun _ hq => (by cases hq), Fb.same⟩)
  have HB1 := Lib.hid (show Below w.heap.size w (w.alloc (.cells #[.slice none 0 0] 99)) from (Below.refl _ _).alloc (Nat.le_refl _) _)
  have hz1 : w.heap.size < (w.alloc (.cells #[.slice none 0 0] 99)).heap.size := by simp
  go_enter Tryz.func20, Tryz.ntmps20
  go_wp2_with fail
  generalize w.alloc (.cells #[.slice none 0 0] 99) = w1 at HS1 HB1 hz1 ⊢
  generalize hB : w.heap.size = b at *
  go_at_call 47
  refine (refnum_ok b none [] ver 8 _ (by unfold Fits; omega) HS1.out.wrt (by simp)).mono ?_
  rintro e w2 ⟨rfl, r2, k1, k2, k3⟩
  have HS2 := Lib.hid (HS1.out.step k1 k2 k3)
  clear k1 k2 k3 HS1
  go_wp2_with fail
  go_at_call 48
  refine (reftext_ok b r2 _ d _ (by omega) HS2.out.wrt (by simp [leb])).mono ?_
  rintro e w3 ⟨rfl, r3, k1, k2, k3⟩
  have HS3 := Lib.hid (HS2.out.step k1 k2 k3)
  clear k1 k2 k3 HS2
  go_wp2_with fail
  go_at_call 49
  refine (refbytes b r3 _ _ HS3.out.wrt).mono ?_
  rintro e w4 ⟨rfl, rfl⟩
  go_wp2
  go_ret2
  exact ⟨rfl, by rw [hB]; exact below_fb HB1.out HS3.out.fb (Nat.le_refl _) (Nat.le_of_lt hz1)⟩
end Go.Proofs.YtmmpknfkncgjpaaGreatDoor

namespace Go.Proofs.YtmmpknfkncgjpaaGreatDoor
open Go.RowKit Go.Lib Go.PlainAid

theorem parOf_num {s : ByteArray} (h : numAt s 0 8 = none) : parO s = ((0, ⟨#[]⟩), 30) := parO_none (by unfold parOf; rw [h])
theorem parOf_text {s : ByteArray} (h : textAt s 8 = none) : parO s = ((0, ⟨#[]⟩), 30) := parO_none (by unfold parOf; rw [h]; cases numAt s 0 8 <;> rfl)
theorem parOf_no {s : ByteArray} {n : Int} {d : ByteArray} (h1 : numAt s 0 8 = some n) (h2 : textAt s 8 = some d) (h : ¬ (10 + d.size = s.size ∧ n ≤ 1099511627776 ∧ d.size ≤ 16)) : parO s = ((0, ⟨#[]⟩), 30) := by
  refine parO_none ?_
  unfold parOf; rw [h1, h2]
  exact if_neg h
theorem parOf_yes {s : ByteArray} {n : Int} {d : ByteArray} (h1 : numAt s 0 8 = some n) (h2 : textAt s 8 = some d) (h : 10 + d.size = s.size ∧ n ≤ 1099511627776 ∧ d.size ≤ 16) : parO s = ((n, d), 0) := by
  refine parO_some ?_
  unfold parOf; rw [h1, h2]
  exact if_pos h
theorem strL_ne {a b : ByteArray} (h : a ≠ b) : (a.toList == b.toList) = false := by
  simp only [beq_eq_false_iff_ne, ne_eq]
  intro e
  rw [ByteArray.toList_eq, ByteArray.toList_eq] at e
  exact h (ByteArray.ext (Array.toList_inj.1 e))

set_option maxRecDepth 100000 in
set_option maxHeartbeats 4000000 in
theorem parse13_any (s : ByteArray) (w : World) (hg : ErrType w) (hs : s.size ≤ 1000000000) :
    Calls Tryz.prog 21 #[.string s] w fun e w' => e = .returned (.tuple #[.int .i64 (parO s).1.1, .string (parO s).1.2, .int .i64 (parO s).2]) ∧ Below w.heap.size w w' := by
  have HG := Lib.hid hg
  obtain ⟨pa, pd, pe, hP⟩ : ∃ a d e, parO s = ((a, d), e) := ⟨_, _, _, rfl⟩
  rw [hP]
  have HPO := Lib.hid hP
  clear hg hP
  go_enter Tryz.func21, Tryz.ntmps21
  go_wp2_with fail
  go_at_call 50
  refine (newReader s w).mono ?_
  rintro e w1 ⟨rfl, hr1, hb1, hz1⟩
  have HR1 := Lib.hid hr1
  have HB1 := Lib.hid hb1
  clear hr1 hb1
  generalize hB : w.heap.size = b at *
  go_wp2_with fail
  go_at_call 51
  refine (rnumAt b 0 s 8 (.inr rfl) w1 HR1.out (Nat.zero_le _) hs).mono ?_
  rintro e w2 ⟨n, v, a, rfl, hr2, ha2, hf2, ho2⟩
  have HR2 := Lib.hid hr2
  have HB2 := Lib.hid (below_fb HB1.out hf2 (Nat.le_refl _) (Nat.le_of_lt hz1))
  have HO2 := Lib.hid ho2
  clear hr2 hf2 ho2 HR1
  go_wp2_with fail
  go_at_call 52
  refine (rtextAt b a s w2 (HG.out.below (by rw [hB]; exact HB2.out)) HR2.out ha2 hs).mono ?_
  rintro e w3 ⟨d, v', a', rfl, -, -, hf3, ho3⟩
  have HB3 := Lib.hid (below_fb HB2.out hf3 (Nat.le_refl _) (by have := HB2.out.size; omega))
  have hall : ∀ x, parOf s = some x → x = (n, d) := fun x hx => by
    obtain ⟨p, q⟩ := x
    obtain ⟨-, h2, h3, -⟩ := parOf_fits hx
    rcases HO2.out with ⟨k1, -, k3⟩ | ⟨k1, -⟩
    · rw [k1] at h2
      have ha : a = 8 := by omega
      rw [ha] at ho3
      rcases ho3 with ⟨j1, -⟩ | ⟨j1, -⟩
      · rw [j1] at h3
        simp only [Option.some.injEq] at h2 h3
        rw [h2, h3]
      · rw [j1] at h3; cases h3
    · rw [k1] at h2; cases h2
  have HC := Lib.hid (parO_cases s n d hall)
  clear hf3 ho3 hall HO2 HR2 HB2
  go_wp2_with fail
  go_at_call 19
  refine (value_any n d w3).mono ?_
  rintro e w4 ⟨rfl, hb4⟩
  have HB4 := Lib.hid (HB3.out.trans (hb4.mono (by have := HB3.out.size; omega)))
  clear hb4
  rcases HC.out with ⟨h1, h2, h3⟩ | ⟨h1, h2⟩
  · have hE := HPO.out.symm.trans h3
    simp only [Prod.mk.injEq] at hE
    obtain ⟨⟨rfl, rfl⟩, rfl⟩ := hE
    rw [show valO pa pd = (s, 0) by unfold valO; rw [if_pos h1, h2]]
    have he : (s.toList == s.toList) = true := by simp
    go_wp2
    go_ret3
    exact ⟨rfl, by rw [hB]; exact HB4.out⟩
  · have hE := HPO.out.symm.trans h1
    simp only [Prod.mk.injEq] at hE
    obtain ⟨⟨rfl, rfl⟩, rfl⟩ := hE
    by_cases hz : valE n d = 0
    · rw [show valO n d = (valB n d, 0) by unfold valO; rw [if_pos hz]]
      have he := strL_ne (a := valB n d) (b := s) (fun e => h2 ⟨hz, e⟩)
      generalize valB n d = t at he ⊢
      clear h2 hz HC h1
      go_wp2
      go_ret3
      exact ⟨rfl, by rw [hB]; exact HB4.out⟩
    · rw [show valO n d = (⟨#[]⟩, valE n d) by unfold valO; rw [if_neg hz]]
      generalize valE n d = t at hz ⊢
      have he : (t != 0) = true := by simpa using hz
      clear h2 HC h1
      go_wp2
      go_ret3
      exact ⟨rfl, by rw [hB]; exact HB4.out⟩

/-- A fault of the document's own in block z: its errors es. -/
structure Flt (w : World) (z : Nat) (A : Option Addr) (m c : Nat) (at_ : Int) (es : List Int) : Prop where
  box : w.heap[z]? = some (.cells #[.slice A m c, .int .i64 at_] 102 (0, 0))
  rf : RF w A m c es
  few : m ≤ 1000
section
variable {w w' : World} {z : Nat} {A : Option Addr} {m c : Nat} {at_ : Int} {es : List Int}
theorem Flt.lt (h : Flt w z A m c at_ es) : z < w.heap.size := (Array.getElem?_eq_some_iff.1 h.box).1
theorem Flt.cells (h : Flt w z A m c at_ es) : w.cell? ⟨z, 0, none⟩ = some (.slice A m c) ∧ w.cell? ⟨z, 1, none⟩ = some (.int .i64 at_) := by
  unfold World.cell?; simp only [h.box]; exact ⟨rfl, rfl⟩
theorem Flt.fresh (h : RF w A m c es) (hm : m ≤ 1000) : Flt (w.alloc (.cells #[.slice A m c, .int .i64 at_] 102)) w.heap.size A m c at_ es :=
  ⟨heap_alloc_new w _, h.below ((Below.refl _ _).alloc (Nat.le_refl _) _), hm⟩
theorem Flt.below (h : Flt w z A m c at_ es) (hb : Below w.heap.size w w') : Flt w' z A m c at_ es := ⟨by rw [hb.block z h.lt]; exact h.box, h.rf.below hb, h.few⟩
/-- The reader has turned. -/
theorem Flt.fbR (h : Flt w z A m c at_ es) {R q : Nat} {t : ByteArray} (hR : Rdr w R t q) (hf : Fb R w w') : Flt w' z A m c at_ es := by
  have hz : z ≠ R := fun e => by
    have := h.cells.1
    rw [e, hR.1] at this
    cases this
  refine ⟨by rw [hf.block z h.lt hz (by simp)]; exact h.box, ?_, h.few⟩
  obtain ⟨h1, h2, h3⟩ := h.rf
  refine ⟨h1, h2, ?_⟩
  rcases h3 with h3 | ⟨g, hA, hc⟩
  · exact .inl h3
  · refine .inr ⟨g, hA, fun j x hx => ?_⟩
    have hcj := hc j x hx
    have hg : g ≠ R := fun e => by
      cases es with
      | nil => simp at hx
      | cons y es =>
        have := hc 0 y rfl
        rw [e, hR.1] at this
        cases this
    exact hf.cell hcj hg
end
/-- The document's own acceptor is being loaded: the reader in block R, the acceptor in block r. -/
structure Dl (w : World) (R : Nat) (t : ByteArray) (wr : World) (q : Nat) : Prop where
  lR : w.heap.size ≤ R
  rdr : Rdr wr R t q
  le : q ≤ t.size
  sz : t.size ≤ 1000000000
  below : Below w.heap.size w wr
section
variable {w wr w' : World} {R q q' : Nat} {t : ByteArray}
theorem Dl.low (h : Dl w R t wr q) (hb : Below wr.heap.size wr w') : Dl w R t w' q := ⟨h.lR, h.rdr.below hb, h.le, h.sz, h.below.trans (hb.mono h.below.size)⟩
theorem Dl.to (h : Dl w R t wr q) (hr : Rdr w' R t q') (hq : q' ≤ t.size) (hf : Fb R wr w') : Dl w R t w' q' := ⟨h.lR, hr, hq, h.sz, below_fb h.below hf h.lR h.below.size⟩
end

theorem below_row0 (w : World) (o : Obj) : Below w.heap.size w (w.alloc o) := (Below.refl _ _).alloc (Nat.le_refl _) o
set_option maxRecDepth 100000 in
set_option maxHeartbeats 8000000 in
theorem rparse13_any (s : ByteArray) (w : World) (hs : s.size ≤ 1000000000) :
    Calls Tryz.prog 22 #[.string s] w fun e w' => e = .returned (.tuple #[.int .i64 (parO s).1.1, .string (parO s).1.2, .int .i64 (parO s).2]) ∧ Below w.heap.size w w' := by
  obtain ⟨pa, pd, pe, hP⟩ : ∃ a d e, parO s = ((a, d), e) := ⟨_, _, _, rfl⟩
  rw [hP]
  have HPO := Lib.hid hP
  clear hP
  have HD1 := Lib.hid (show Dl w w.heap.size s (w.alloc (.cells #[.string s, .int .i64 0] 113)) 0 from
    ⟨Nat.le_refl _, ⟨by simp, by simp, by simp⟩, Nat.zero_le _, hs, (Below.refl _ _).alloc (Nat.le_refl _) _⟩)
  go_enter Tryz.func22, Tryz.ntmps22
  go_wp2_with fail
  generalize w.alloc (.cells #[.string s, .int .i64 0] 113) = w2 at HD1 ⊢
  generalize w.heap.size = R at HD1 ⊢
  go_at_call 53
  refine (rrnumAt R 0 s 8 (.inr rfl) w2 HD1.out.rdr HD1.out.le HD1.out.sz).mono ?_
  rintro e w3 ⟨n, A1, m1, c1, at1, es1, q1, rfl, rf1, hm1, hr1, hq1, hf1, hor1⟩
  have HF3 := Lib.hid (Flt.fresh (at_ := at1) rf1 hm1)
  have HD3 := Lib.hid ((HD1.out.to hr1 hq1 hf1).low (below_row0 w3 (.cells #[.slice A1 m1 c1, .int .i64 at1] 102)))
  have HO1 := Lib.hid hor1
  clear rf1 hm1 hr1 hq1 hf1 hor1 HD1
  go_wp2_with fail
  generalize w3.alloc (.cells #[.slice A1 m1 c1, .int .i64 at1] 102) = w4 at HF3 HD3 ⊢
  generalize w3.heap.size = z1 at HF3 ⊢
  go_at_call 54
  refine (rrtextAt R q1 s w4 HD3.out.rdr HD3.out.le HD3.out.sz).mono ?_
  rintro e w5 ⟨d, A2, m2, c2, at2, es2, q2, rfl, rf2, hm2, hr2, hq2, hf2, hor2⟩
  have HF5 := Lib.hid (Flt.fresh (at_ := at2) rf2 hm2)
  have hbl := below_row0 w5 (.cells #[.slice A2 m2 c2, .int .i64 at2] 102)
  have HG5 := Lib.hid ((HF3.out.fbR HD3.out.rdr hf2).below hbl)
  have HD5 := Lib.hid ((HD3.out.to hr2 hq2 hf2).low hbl)
  have HO2 := Lib.hid hor2
  clear rf2 hm2 hr2 hq2 hf2 hor2 HD3 HF3 hbl
  go_upto_region 4 with fail
  generalize w5.alloc (.cells #[.slice A2 m2 c2, .int .i64 at2] 102) = w6 at HF5 HG5 HD5 ⊢
  generalize w5.heap.size = z2 at HF5 ⊢
  obtain ⟨x0, x1⟩ := HG5.out.cells
  obtain ⟨y0, y1⟩ := HF5.out.cells
  have HC1 := Lib.hid (rcode_any A1 m1 c1 es1 at1 w6 HG5.out.rf HG5.out.few)
  go_wp2_with fail
  go_at_call 55
  refine HC1.out.mono ?_
  rintro e w7 ⟨rfl, hb7⟩
  have HD7 := Lib.hid (HD5.out.low hb7)
  have HF7 := Lib.hid (HF5.out.below hb7)
  obtain ⟨y0, y1⟩ := HF7.out.cells
  clear hb7 HC1 HF5 HG5 HD5 x0 x1
  generalize es1.headD 0 = k1 at HO1 ⊢
  by_cases hk1 : k1 = 0
  case neg =>
    have hd1 : (k1 != 0) = true := by simp [hk1]
    have hp := parOf_num (s := s) (by
      rcases HO1.out with ⟨-, h2, -⟩ | ⟨h1, -⟩
      · exact absurd h2 hk1
      · exact h1)
    have hE := HPO.out.symm.trans hp
    simp only [Prod.mk.injEq] at hE
    obtain ⟨⟨rfl, rfl⟩, rfl⟩ := hE
    clear hp HPO
    clear HO1 HO2
    go_wp2
    go_ret3
    exact ⟨rfl, HD7.out.below⟩
  have hd1 : (k1 != 0) = false := by simp [hk1]
  have ho1 : numAt s 0 8 = some n ∧ q1 = 8 := by
    rcases HO1.out with ⟨h1, -, h3⟩ | ⟨-, -, -, h4⟩
    · exact ⟨h1, by omega⟩
    · exact absurd hk1 h4
  obtain ⟨hp1, rfl⟩ := ho1
  have HP1 := Lib.hid hp1
  have HC2 := Lib.hid (rcode_any A2 m2 c2 es2 at2 w7 HF7.out.rf HF7.out.few)
  clear HO1 hp1
  go_wp2_with fail
  go_at_call 55
  refine HC2.out.mono ?_
  rintro e w8 ⟨rfl, hb8⟩
  have HD8 := Lib.hid (HD7.out.low hb8)
  clear hb8 HC2 HF7 HD7 y0 y1
  generalize es2.headD 0 = k2 at HO2 ⊢
  by_cases hk2 : k2 = 0
  case neg =>
    have hd2 : (k2 != 0) = true := by simp [hk2]
    have hp := parOf_text (s := s) (by
      rcases HO2.out with ⟨-, h2, -⟩ | ⟨h1, -⟩
      · exact absurd h2 hk2
      · exact h1)
    have hE := HPO.out.symm.trans hp
    simp only [Prod.mk.injEq] at hE
    obtain ⟨⟨rfl, rfl⟩, rfl⟩ := hE
    clear hp HPO
    clear HO2
    go_wp2
    go_ret3
    exact ⟨rfl, HD8.out.below⟩
  have hd2 : (k2 != 0) = false := by simp [hk2]
  have ho2 : textAt s 8 = some d ∧ q2 = 10 + d.size := by
    rcases HO2.out with ⟨h1, -, h3⟩ | ⟨-, -, -, h4⟩
    · exact ⟨h1, by omega⟩
    · exact absurd hk2 h4
  obtain ⟨hp2, hq⟩ := ho2
  have HP2 := Lib.hid hp2
  have HQ := Lib.hid hq
  clear HO2 hp2 hq
  go_wp2_with fail
  go_at_call 56
  refine (rrendAt R q2 s w8 HD8.out.rdr HD8.out.le).mono ?_
  rintro e w9 ⟨A3, m3, c3, at3, es3, rfl, rf3, hm3, hb9, ho3⟩
  have HD9 := Lib.hid (HD8.out.low hb9)
  have HO3 := Lib.hid ho3
  have HC3 := Lib.hid (rcode_any A3 m3 c3 es3 at3 w9 rf3 hm3)
  clear hb9 ho3 rf3 hm3 HD8
  go_wp2_with fail
  go_at_call 55
  refine HC3.out.mono ?_
  rintro e w10 ⟨rfl, hb10⟩
  have HDx := Lib.hid (HD9.out.low hb10)
  clear hb10 HC3 HD9
  generalize es3.headD 0 = k3 at HO3 ⊢
  by_cases hk3 : k3 = 0
  case neg =>
    have hd3 : (k3 != 0) = true := by simp [hk3]
    have hp := parOf_no HP1.out HP2.out (fun h => by
      rcases HO3.out with ⟨-, h2⟩ | ⟨h1, -⟩
      · exact absurd h2 hk3
      · exact h1 (by rw [HQ.out]; exact h.1))
    have hE := HPO.out.symm.trans hp
    simp only [Prod.mk.injEq] at hE
    obtain ⟨⟨rfl, rfl⟩, rfl⟩ := hE
    clear hp HPO
    clear HO3
    go_wp2
    go_ret3
    exact ⟨rfl, HDx.out.below⟩
  have hd3 : (k3 != 0) = false := by simp [hk3]
  have HS := Lib.hid (show 10 + d.size = s.size by
    rcases HO3.out with ⟨h1, -⟩ | ⟨-, h4⟩
    · rw [← HQ.out]; exact h1
    · exact absurd hk3 h4)
  clear HO3
  by_cases hn : 1099511627776 < n
  · have hp := parOf_no HP1.out HP2.out (fun h => by omega)
    have hE := HPO.out.symm.trans hp
    simp only [Prod.mk.injEq] at hE
    obtain ⟨⟨rfl, rfl⟩, rfl⟩ := hE
    clear hp HPO
    have hdp : decide (1099511627776 < n) = true := decide_eq_true hn
    go_wp2
    go_ret3
    exact ⟨rfl, HDx.out.below⟩
  by_cases hd : (16 : Int) < (d.size : Int)
  · have hp := parOf_no HP1.out HP2.out (fun h => by omega)
    have hE := HPO.out.symm.trans hp
    simp only [Prod.mk.injEq] at hE
    obtain ⟨⟨rfl, rfl⟩, rfl⟩ := hE
    clear hp HPO
    have hdp : decide (1099511627776 < n) = false := decide_eq_false hn
    have hdd : decide ((16 : Int) < (d.size : Int)) = true := decide_eq_true hd
    go_wp2
    go_ret3
    exact ⟨rfl, HDx.out.below⟩
  have hp := parOf_yes HP1.out HP2.out ⟨HS.out, by omega, by omega⟩
  have hE := HPO.out.symm.trans hp
  simp only [Prod.mk.injEq] at hE
  obtain ⟨⟨rfl, rfl⟩, rfl⟩ := hE
  clear hp HPO
  have hdp : decide (1099511627776 < pa) = false := decide_eq_false hn
  have hdd : decide ((16 : Int) < (pd.size : Int)) = false := decide_eq_false hd
  go_wp2
  go_ret3
  exact ⟨rfl, HDx.out.below⟩
end Go.Proofs.YtmmpknfkncgjpaaGreatDoor
