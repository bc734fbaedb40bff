/-
  The document's writer (weirkeepref01), by contracts: its Num.
-/
import Derived.Test.YtmmpknfkncgjpaaGreatDoorM11
namespace Go.Proofs.YtmmpknfkncgjpaaGreatDoor
open Go.RowKit Go.Extern.Stop Go.Stop Go.Extern Go.PlainAid Go.Lib

theorem Fr.refl (b : Nat) (row : Option Nat) (w : World) : Fr b row w w := ⟨rfl, rfl, rfl, Nat.le_refl _, fun _ _ _ _ => rfl⟩
theorem Fr.alloc {b : Nat} {row : Option Nat} {w w1 : World} (h : Fr b row w w1) (o : Obj) : Fr b row w (w1.alloc o) :=
  ⟨h.os, h.tape, h.output, by have := h.size; simp; omega, fun k hk h1 h2 => by rw [Below.heap_alloc w1 o k (by have := h.size; omega)]; exact h.block k hk h1 h2⟩
/-- Below ahead, then such a step, then a store into a new block. -/
theorem Fr.after {b : Nat} {row : Option Nat} {w w0 w1 : World} (hb : Below w.heap.size w w0) (h : Fr b row w0 w1) : Fr b row w w1 :=
  ⟨h.os.trans hb.os, h.tape.trans hb.tape, h.output.trans hb.output, Nat.le_trans hb.size h.size, fun k hk h1 h2 => (h.block k (Nat.lt_of_lt_of_le hk hb.size) h1 h2).trans (hb.block k hk)⟩
theorem Fr.then_ {b : Nat} {row : Option Nat} {w w1 w2 : World} (h : Fr b row w w1) (hb : Below w.heap.size w1 w2) : Fr b row w w2 :=
  ⟨hb.os.trans h.os, hb.tape.trans h.tape, hb.output.trans h.output, Nat.le_trans h.size hb.size, fun k hk h1 h2 => (hb.block k hk).trans (h.block k hk h1 h2)⟩
theorem RowOk.trans {r1 r2 r3 : Option Nat} {w w' : World} (h : RowOk r1 r2 w) (h' : RowOk r2 r3 w') (hz : w.heap.size ≤ w'.heap.size) : RowOk r1 r3 w := by
  rcases h' with rfl | ⟨g, rfl, hg⟩
  · exact h
  · exact .inr ⟨g, rfl, by omega⟩

theorem leb_succ (n : Int) (j : Nat) (hj : j < 8) : leb n (j + 1) = leb n j ++ [n / 256 ^ j % 256] := by
  obtain rfl | rfl | rfl | rfl | rfl | rfl | rfl | rfl : j = 0 ∨ j = 1 ∨ j = 2 ∨ j = 3 ∨ j = 4 ∨ j = 5 ∨ j = 6 ∨ j = 7 := by omega
  all_goals simp [leb]

theorem pow_div (n : Int) (j : Nat) : n / 256 ^ j / 256 = n / 256 ^ (j + 1) := by
  rw [Int.ediv_ediv_of_nonneg (Int.pow_nonneg (by decide)), Int.pow_succ]
/-- The result's cells, in a block that only this call has. -/
def Res (w : World) (R : Nat) : Prop := w.cell? ⟨R, 0, none⟩ = some (.slice none 0 0) ∧ w.cell? ⟨R, 1, none⟩ = some (.int .i64 0) ∧ w.frozen? ⟨R, 0, none⟩ = false ∧ w.frozen? ⟨R, 1, none⟩ = false
theorem Res.fr {w w' : World} {R b : Nat} {row : Option Nat} (h : Res w R) (hf : Fr b row w w') (h1 : R ≠ b) (h2 : some R ≠ row) (hl : R < w.heap.size) : Res w' R := by
  have hb := hf.block R hl h1 h2
  obtain ⟨a, c, d, e⟩ := h
  exact ⟨by rw [World.cell?_of_block (w := w) (a := ⟨R, 0, none⟩) hb]; exact a, by rw [World.cell?_of_block (w := w) (a := ⟨R, 1, none⟩) hb]; exact c, by rw [World.frozen?_of_block (w := w) (a := ⟨R, 0, none⟩) hb]; exact d, by rw [World.frozen?_of_block (w := w) (a := ⟨R, 1, none⟩) hb]; exact e⟩
theorem res_cells {w : World} {R : Nat} {x0 x1 : Value} (h0 : w.cell? ⟨R, 0, none⟩ = some x0) (h1 : w.cell? ⟨R, 1, none⟩ = some x1) (v0 v1 : Value) :
    ((w.setCell ⟨R, 0, none⟩ v0).setCell ⟨R, 1, none⟩ v1).cell? ⟨R, 0, none⟩ = some v0 ∧ ((w.setCell ⟨R, 0, none⟩ v0).setCell ⟨R, 1, none⟩ v1).cell? ⟨R, 1, none⟩ = some v1 := by
  have e1 : (w.setCell ⟨R, 0, none⟩ v0).cell? ⟨R, 1, none⟩ = some x1 := by rw [World.cell?_setCell_other _ _ _ _ (by simp)]; exact h1
  refine ⟨?_, World.cell?_setCell_same _ _ _ e1⟩
  rw [World.cell?_setCell_other _ _ _ _ (by simp)]; exact World.cell?_setCell_same _ _ _ h0
theorem Res.below {w w' : World} {R : Nat} (h : Res w R) (hb : Below w.heap.size w w') (hl : R < w.heap.size) : Res w' R :=
  h.fr (b := w.heap.size) (row := none) ⟨hb.os, hb.tape, hb.output, hb.size, fun k hk _ _ => hb.block k hk⟩ (by omega) (by simp) hl
theorem Wrt.setOther {w : World} {b : Nat} {row : Option Nat} {bs : List Int} (h : Wrt w b row bs) {p : Addr} (u : Value) (h1 : p.block ≠ b) (h2 : row ≠ some p.block) : Wrt (w.setCell p u) b row bs := by
  have hf : Fr p.block none w (w.setCell p u) := ⟨rfl, rfl, rfl, by simp [World.setCell], fun k _ hk _ => Below.heap_setCell _ _ _ _ hk⟩
  exact h.fr hf (Ne.symm h1) (by simp) (fun g hg => ⟨fun e => h2 (by rw [hg, e]), by simp⟩)

set_option maxRecDepth 100000 in
set_option maxHeartbeats 1000000 in
theorem refnum1_ok (b : Nat) (row : Option Nat) (bs : List Int) (n : Int) (w : World) (hn0 : 0 ≤ n) (hn1 : n < 256) (hW : Wrt w b row bs) (hl : bs.length ≤ 90000000) :
    Calls Tryz.prog 47 #[.pointer (some ⟨b, 0, none⟩), .int .i64 n, .int .i64 1] w fun e w' => e = .returned (.agg #[.slice none 0 0, .int .i64 0]) ∧
      ∃ row', Wrt w' b row' (bs ++ leb n 1) ∧ RowOk row row' w ∧ Fr b row w w' := by
  obtain ⟨i0, hi0, hz0, hz1, hz2⟩ := info_parts infoByte
  have hwd : Width 1 := by unfold Width; omega
  have hd : decide (n < 0) = false := by simp only [decide_eq_false_iff_not]; omega
  have hd2 : decide ((256 : Int) ≤ n) = false := by simp only [decide_eq_false_iff_not]; omega
  have HW := Lib.hid hW
  have hbR := hW.lt
  have hrow0 : ∀ g, row = some g → g < w.heap.size := fun g hg => (hW.row_lt hg).2
  have HR0 := Lib.hid hrow0
  have N1 := Lib.hid hn1
  clear hW hrow0 hn1
  go_enter Tryz.func47, Tryz.ntmps47
  go_wp2_with (go_at_call 81; refine (wide_yes _ _ hwd).mono ?_; rintro e w' ⟨rfl, rfl⟩)
  have hres : Res (w.alloc (.cells #[.slice none 0 0, .int .i64 0] 102)) w.heap.size := ⟨by simp, by simp, by simp, by simp⟩
  have hb0 : Below w.heap.size w (w.alloc (.cells #[.slice none 0 0, .int .i64 0] 102)) := (Below.refl _ _).alloc (Nat.le_refl _) _
  have hW0 := HW.out.below hb0
  have hz00 : w.heap.size < (w.alloc (.cells #[.slice none 0 0, .int .i64 0] 102)).heap.size := by simp
  have HS := Lib.hid hres
  have HB0 := Lib.hid hb0
  have HW0 := Lib.hid hW0
  have HZ0 := Lib.hid hz00
  clear hres hb0 hW0 hz00
  generalize w.alloc (.cells #[.slice none 0 0, .int .i64 0] 102) = w0 at HS HB0 HW0 HZ0 ⊢
  go_loopw [1, 7] (fun x i wr => ∃ (j : Nat) (rj : Option Nat), j ≤ 1 ∧ x = .int .i64 (n / 256 ^ j) ∧ i = .int .i64 j ∧ Wrt wr b rj (bs ++ leb n j) ∧ RowOk row rj w0 ∧ Fr b row w0 wr) (fun _ i _ => 1 - (intOf i).toNat)
  case atStart => exact ⟨0, row, by omega, by simp, rfl, by simpa [leb] using HW0.out, .inl rfl, Fr.refl _ _ _⟩
  case round =>
    obtain ⟨j, rj, hj, rfl, rfl, hWj, hrj, hfj⟩ := hrel
    have HWj := Lib.hid hWj
    have Hrj := Lib.hid hrj
    have Hfj := Lib.hid hfj
    clear hrj hfj
    by_cases hlt : j < 1
    · obtain ⟨sv, hsv, hsf, hown, hrow⟩ := hWj
      have hlen : (bs ++ leb n j).length = bs.length + j := by rw [List.length_append, leb_len n j (by omega)]
      rw [hlen] at hown
      have hbl := cell_lt hsv
      have hne : sv.ownBlock ≠ some b := fun h => by have := (hown.lt b h).1; omega
      have hX0 : 0 ≤ n / 256 ^ j := Int.ediv_nonneg hn0 (Int.pow_nonneg (by decide))
      have hX1 : n / 256 ^ j ≤ 9223372036854775807 := Int.le_trans (Int.ediv_le_self _ hn0) (by have := N1.out; omega)
      have HX := Lib.hid (pow_div n j)
      have HL := Lib.hid (leb_succ n j (by omega))
      have HLen := Lib.hid hlen
      have Hrow := Lib.hid hrow
      have hjI : (j : Int) < 1 := by omega
      generalize n / 256 ^ j = X at hX0 hX1 HX HL ⊢
      clear hlen hrow
      go_wp2_with (at_builtin; refine wpList_append_lies _ rfl (.tmp 42) (.tmp 46) 73 rfl (b + 1) 5 i0 _ 1 1 Tryz.underlying73 hi0 hz0 hz1 hz2 rfl (by decide) sv _ _ rfl (hown.alloc _) ⟨wr.heap.size, 0, none⟩ 1 1 [.int .u8 (X % 256)] rfl rfl (World.news_of_block (cs := #[.int .u8 (X % 256)]) (t := 5) (fr := (0, 0)) (heap_alloc_new wr _)) (by simp [Value.oneCell']) (by decide) (by unfold maxLen; omega) (by omega) (by simp; omega) (wr.heap.size + 1) (by simp) ?_; intro g cap w2 hown2 hgrow hat hglt; (have hf2 : w2.frozen? ⟨b, 0, none⟩ = false := by rw [hgrow.frozen_far _ (by simp; omega) (Ne.symm hne)]; exact (World.frozen?_alloc_old wr _ ⟨b, 0, none⟩ (Nat.ne_of_lt hbl)).trans hsf); (have hc2 : w2.cell? ⟨b, 0, none⟩ = some sv := by rw [hgrow.cell_far _ (by simp; omega) (Ne.symm hne)]; exact (World.cell?_alloc_lt wr _ ⟨b, 0, none⟩ hbl).trans hsv))
      go_roundw
      case rel =>
        refine ⟨j + 1, some g, by omega, by rw [HX.out], by go_num, Wrt.stored hc2 hf2 ?_ ?_, ?_, (Hfj.out.alloc _).grown Hrj.out hgrow Hrow.out⟩
        · rw [HL.out, ← List.append_assoc, List.length_append, HLen.out]; simp
        · rw [HL.out, ← List.append_assoc, List.map_append]; exact hown2
        · rcases hat with h | h
          · have := Hrow.out; rw [h] at this; rw [this]; exact Hrj.out
          · exact .inr ⟨g, rfl, by have := Hfj.out.size; omega⟩
      case measure => simp [intOf]; omega
    · obtain rfl : j = 1 := by omega
      have hRb : w.heap.size ≠ b := by omega
      have hRr : some w.heap.size ≠ row := fun e => by have := HR0.out _ e.symm; omega
      obtain ⟨r0, r1, r2, r3⟩ := HS.out.fr Hfj.out hRb hRr HZ0.out
      have hzr := Hfj.out.size
      clear hWj hRb hRr
      have hrj : RowOk row rj w := by
        rcases Hrj.out with h | ⟨g, h, hg⟩
        · exact .inl h
        · exact .inr ⟨g, h, by have := HZ0.out; omega⟩
      have hrR : rj ≠ some w.heap.size := fun e => by
        rcases Hrj.out with h | ⟨g, h, hg⟩
        · have := HR0.out _ (h.symm.trans e); omega
        · rw [h] at e; injection e with e; have := HZ0.out; omega
      have Q1 := Lib.hid hrj
      have Q2 := Lib.hid hrR
      clear hrj hrR
      have P1 := Lib.hid ((HWj.out.setOther (p := ⟨w.heap.size, 0, none⟩) (.slice none 0 0) (Nat.ne_of_gt hbR) Q2.out).setOther (p := ⟨w.heap.size, 1, none⟩) (.int .i64 0) (Nat.ne_of_gt hbR) Q2.out)
      have P2 := Lib.hid ((Fr.after HB0.out Hfj.out).then_ (((Below.refl w.heap.size wr).setCell (p := ⟨w.heap.size, 0, none⟩) (Nat.le_refl _) (.slice none 0 0)).setCell (p := ⟨w.heap.size, 1, none⟩) (Nat.le_refl _) (.int .i64 0)))
      have hcs := res_cells r0 r1 (.slice none 0 0) (.int .i64 0)
      go_wp2
      generalize (wr.setCell ⟨w.heap.size, 0, none⟩ (.slice none 0 0)).setCell ⟨w.heap.size, 1, none⟩ (.int .i64 0) = wf at P1 P2 hcs ⊢
      obtain ⟨c0, c1⟩ := hcs
      exact bodyPost_ret (v := .agg #[.slice none 0 0, .int .i64 0]) (by simp [results, Tryz.results47, go_sem, c0, c1]) rfl ⟨rfl, rj, P1.out, Q1.out, P2.out⟩

set_option maxRecDepth 100000 in
set_option maxHeartbeats 1000000 in
theorem refnum2_ok (b : Nat) (row : Option Nat) (bs : List Int) (n : Int) (w : World) (hn0 : 0 ≤ n) (hn1 : n < 65536) (hW : Wrt w b row bs) (hl : bs.length ≤ 90000000) :
    Calls Tryz.prog 47 #[.pointer (some ⟨b, 0, none⟩), .int .i64 n, .int .i64 2] w fun e w' => e = .returned (.agg #[.slice none 0 0, .int .i64 0]) ∧
      ∃ row', Wrt w' b row' (bs ++ leb n 2) ∧ RowOk row row' w ∧ Fr b row w w' := by
  obtain ⟨i0, hi0, hz0, hz1, hz2⟩ := info_parts infoByte
  have hwd : Width 2 := by unfold Width; omega
  have hd : decide (n < 0) = false := by simp only [decide_eq_false_iff_not]; omega
  have hd2 : decide ((65536 : Int) ≤ n) = false := by simp only [decide_eq_false_iff_not]; omega
  have HW := Lib.hid hW
  have hbR := hW.lt
  have hrow0 : ∀ g, row = some g → g < w.heap.size := fun g hg => (hW.row_lt hg).2
  have HR0 := Lib.hid hrow0
  have N1 := Lib.hid hn1
  clear hW hrow0 hn1
  go_enter Tryz.func47, Tryz.ntmps47
  go_wp2_with (go_at_call 81; refine (wide_yes _ _ hwd).mono ?_; rintro e w' ⟨rfl, rfl⟩)
  have hres : Res (w.alloc (.cells #[.slice none 0 0, .int .i64 0] 102)) w.heap.size := ⟨by simp, by simp, by simp, by simp⟩
  have hb0 : Below w.heap.size w (w.alloc (.cells #[.slice none 0 0, .int .i64 0] 102)) := (Below.refl _ _).alloc (Nat.le_refl _) _
  have hW0 := HW.out.below hb0
  have hz00 : w.heap.size < (w.alloc (.cells #[.slice none 0 0, .int .i64 0] 102)).heap.size := by simp
  have HS := Lib.hid hres
  have HB0 := Lib.hid hb0
  have HW0 := Lib.hid hW0
  have HZ0 := Lib.hid hz00
  clear hres hb0 hW0 hz00
  generalize w.alloc (.cells #[.slice none 0 0, .int .i64 0] 102) = w0 at HS HB0 HW0 HZ0 ⊢
  go_loopw [1, 7] (fun x i wr => ∃ (j : Nat) (rj : Option Nat), j ≤ 2 ∧ x = .int .i64 (n / 256 ^ j) ∧ i = .int .i64 j ∧ Wrt wr b rj (bs ++ leb n j) ∧ RowOk row rj w0 ∧ Fr b row w0 wr) (fun _ i _ => 2 - (intOf i).toNat)
  case atStart => exact ⟨0, row, by omega, by simp, rfl, by simpa [leb] using HW0.out, .inl rfl, Fr.refl _ _ _⟩
  case round =>
    obtain ⟨j, rj, hj, rfl, rfl, hWj, hrj, hfj⟩ := hrel
    have HWj := Lib.hid hWj
    have Hrj := Lib.hid hrj
    have Hfj := Lib.hid hfj
    clear hrj hfj
    by_cases hlt : j < 2
    · obtain ⟨sv, hsv, hsf, hown, hrow⟩ := hWj
      have hlen : (bs ++ leb n j).length = bs.length + j := by rw [List.length_append, leb_len n j (by omega)]
      rw [hlen] at hown
      have hbl := cell_lt hsv
      have hne : sv.ownBlock ≠ some b := fun h => by have := (hown.lt b h).1; omega
      have hX0 : 0 ≤ n / 256 ^ j := Int.ediv_nonneg hn0 (Int.pow_nonneg (by decide))
      have hX1 : n / 256 ^ j ≤ 9223372036854775807 := Int.le_trans (Int.ediv_le_self _ hn0) (by have := N1.out; omega)
      have HX := Lib.hid (pow_div n j)
      have HL := Lib.hid (leb_succ n j (by omega))
      have HLen := Lib.hid hlen
      have Hrow := Lib.hid hrow
      have hjI : (j : Int) < 2 := by omega
      generalize n / 256 ^ j = X at hX0 hX1 HX HL ⊢
      clear hlen hrow
      go_wp2_with (at_builtin; refine wpList_append_lies _ rfl (.tmp 42) (.tmp 46) 73 rfl (b + 1) 5 i0 _ 1 1 Tryz.underlying73 hi0 hz0 hz1 hz2 rfl (by decide) sv _ _ rfl (hown.alloc _) ⟨wr.heap.size, 0, none⟩ 1 1 [.int .u8 (X % 256)] rfl rfl (World.news_of_block (cs := #[.int .u8 (X % 256)]) (t := 5) (fr := (0, 0)) (heap_alloc_new wr _)) (by simp [Value.oneCell']) (by decide) (by unfold maxLen; omega) (by omega) (by simp; omega) (wr.heap.size + 1) (by simp) ?_; intro g cap w2 hown2 hgrow hat hglt; (have hf2 : w2.frozen? ⟨b, 0, none⟩ = false := by rw [hgrow.frozen_far _ (by simp; omega) (Ne.symm hne)]; exact (World.frozen?_alloc_old wr _ ⟨b, 0, none⟩ (Nat.ne_of_lt hbl)).trans hsf); (have hc2 : w2.cell? ⟨b, 0, none⟩ = some sv := by rw [hgrow.cell_far _ (by simp; omega) (Ne.symm hne)]; exact (World.cell?_alloc_lt wr _ ⟨b, 0, none⟩ hbl).trans hsv))
      go_roundw
      case rel =>
        refine ⟨j + 1, some g, by omega, by rw [HX.out], by go_num, Wrt.stored hc2 hf2 ?_ ?_, ?_, (Hfj.out.alloc _).grown Hrj.out hgrow Hrow.out⟩
        · rw [HL.out, ← List.append_assoc, List.length_append, HLen.out]; simp
        · rw [HL.out, ← List.append_assoc, List.map_append]; exact hown2
        · rcases hat with h | h
          · have := Hrow.out; rw [h] at this; rw [this]; exact Hrj.out
          · exact .inr ⟨g, rfl, by have := Hfj.out.size; omega⟩
      case measure => simp [intOf]; omega
    · obtain rfl : j = 2 := by omega
      have hRb : w.heap.size ≠ b := by omega
      have hRr : some w.heap.size ≠ row := fun e => by have := HR0.out _ e.symm; omega
      obtain ⟨r0, r1, r2, r3⟩ := HS.out.fr Hfj.out hRb hRr HZ0.out
      have hzr := Hfj.out.size
      clear hWj hRb hRr
      have hrj : RowOk row rj w := by
        rcases Hrj.out with h | ⟨g, h, hg⟩
        · exact .inl h
        · exact .inr ⟨g, h, by have := HZ0.out; omega⟩
      have hrR : rj ≠ some w.heap.size := fun e => by
        rcases Hrj.out with h | ⟨g, h, hg⟩
        · have := HR0.out _ (h.symm.trans e); omega
        · rw [h] at e; injection e with e; have := HZ0.out; omega
      have Q1 := Lib.hid hrj
      have Q2 := Lib.hid hrR
      clear hrj hrR
      have P1 := Lib.hid ((HWj.out.setOther (p := ⟨w.heap.size, 0, none⟩) (.slice none 0 0) (Nat.ne_of_gt hbR) Q2.out).setOther (p := ⟨w.heap.size, 1, none⟩) (.int .i64 0) (Nat.ne_of_gt hbR) Q2.out)
      have P2 := Lib.hid ((Fr.after HB0.out Hfj.out).then_ (((Below.refl w.heap.size wr).setCell (p := ⟨w.heap.size, 0, none⟩) (Nat.le_refl _) (.slice none 0 0)).setCell (p := ⟨w.heap.size, 1, none⟩) (Nat.le_refl _) (.int .i64 0)))
      have hcs := res_cells r0 r1 (.slice none 0 0) (.int .i64 0)
      go_wp2
      generalize (wr.setCell ⟨w.heap.size, 0, none⟩ (.slice none 0 0)).setCell ⟨w.heap.size, 1, none⟩ (.int .i64 0) = wf at P1 P2 hcs ⊢
      obtain ⟨c0, c1⟩ := hcs
      exact bodyPost_ret (v := .agg #[.slice none 0 0, .int .i64 0]) (by simp [results, Tryz.results47, go_sem, c0, c1]) rfl ⟨rfl, rj, P1.out, Q1.out, P2.out⟩

set_option maxRecDepth 100000 in
set_option maxHeartbeats 1000000 in
theorem refnum4_ok (b : Nat) (row : Option Nat) (bs : List Int) (n : Int) (w : World) (hn0 : 0 ≤ n) (hn1 : n < 4294967296) (hW : Wrt w b row bs) (hl : bs.length ≤ 90000000) :
    Calls Tryz.prog 47 #[.pointer (some ⟨b, 0, none⟩), .int .i64 n, .int .i64 4] w fun e w' => e = .returned (.agg #[.slice none 0 0, .int .i64 0]) ∧
      ∃ row', Wrt w' b row' (bs ++ leb n 4) ∧ RowOk row row' w ∧ Fr b row w w' := by
  obtain ⟨i0, hi0, hz0, hz1, hz2⟩ := info_parts infoByte
  have hwd : Width 4 := by unfold Width; omega
  have hd : decide (n < 0) = false := by simp only [decide_eq_false_iff_not]; omega
  have hd2 : decide ((4294967296 : Int) ≤ n) = false := by simp only [decide_eq_false_iff_not]; omega
  have HW := Lib.hid hW
  have hbR := hW.lt
  have hrow0 : ∀ g, row = some g → g < w.heap.size := fun g hg => (hW.row_lt hg).2
  have HR0 := Lib.hid hrow0
  have N1 := Lib.hid hn1
  clear hW hrow0 hn1
  go_enter Tryz.func47, Tryz.ntmps47
  go_wp2_with (go_at_call 81; refine (wide_yes _ _ hwd).mono ?_; rintro e w' ⟨rfl, rfl⟩)
  have hres : Res (w.alloc (.cells #[.slice none 0 0, .int .i64 0] 102)) w.heap.size := ⟨by simp, by simp, by simp, by simp⟩
  have hb0 : Below w.heap.size w (w.alloc (.cells #[.slice none 0 0, .int .i64 0] 102)) := (Below.refl _ _).alloc (Nat.le_refl _) _
  have hW0 := HW.out.below hb0
  have hz00 : w.heap.size < (w.alloc (.cells #[.slice none 0 0, .int .i64 0] 102)).heap.size := by simp
  have HS := Lib.hid hres
  have HB0 := Lib.hid hb0
  have HW0 := Lib.hid hW0
  have HZ0 := Lib.hid hz00
  clear hres hb0 hW0 hz00
  generalize w.alloc (.cells #[.slice none 0 0, .int .i64 0] 102) = w0 at HS HB0 HW0 HZ0 ⊢
  go_loopw [1, 7] (fun x i wr => ∃ (j : Nat) (rj : Option Nat), j ≤ 4 ∧ x = .int .i64 (n / 256 ^ j) ∧ i = .int .i64 j ∧ Wrt wr b rj (bs ++ leb n j) ∧ RowOk row rj w0 ∧ Fr b row w0 wr) (fun _ i _ => 4 - (intOf i).toNat)
  case atStart => exact ⟨0, row, by omega, by simp, rfl, by simpa [leb] using HW0.out, .inl rfl, Fr.refl _ _ _⟩
  case round =>
    obtain ⟨j, rj, hj, rfl, rfl, hWj, hrj, hfj⟩ := hrel
    have HWj := Lib.hid hWj
    have Hrj := Lib.hid hrj
    have Hfj := Lib.hid hfj
    clear hrj hfj
    by_cases hlt : j < 4
    · obtain ⟨sv, hsv, hsf, hown, hrow⟩ := hWj
      have hlen : (bs ++ leb n j).length = bs.length + j := by rw [List.length_append, leb_len n j (by omega)]
      rw [hlen] at hown
      have hbl := cell_lt hsv
      have hne : sv.ownBlock ≠ some b := fun h => by have := (hown.lt b h).1; omega
      have hX0 : 0 ≤ n / 256 ^ j := Int.ediv_nonneg hn0 (Int.pow_nonneg (by decide))
      have hX1 : n / 256 ^ j ≤ 9223372036854775807 := Int.le_trans (Int.ediv_le_self _ hn0) (by have := N1.out; omega)
      have HX := Lib.hid (pow_div n j)
      have HL := Lib.hid (leb_succ n j (by omega))
      have HLen := Lib.hid hlen
      have Hrow := Lib.hid hrow
      have hjI : (j : Int) < 4 := by omega
      generalize n / 256 ^ j = X at hX0 hX1 HX HL ⊢
      clear hlen hrow
      go_wp2_with (at_builtin; refine wpList_append_lies _ rfl (.tmp 42) (.tmp 46) 73 rfl (b + 1) 5 i0 _ 1 1 Tryz.underlying73 hi0 hz0 hz1 hz2 rfl (by decide) sv _ _ rfl (hown.alloc _) ⟨wr.heap.size, 0, none⟩ 1 1 [.int .u8 (X % 256)] rfl rfl (World.news_of_block (cs := #[.int .u8 (X % 256)]) (t := 5) (fr := (0, 0)) (heap_alloc_new wr _)) (by simp [Value.oneCell']) (by decide) (by unfold maxLen; omega) (by omega) (by simp; omega) (wr.heap.size + 1) (by simp) ?_; intro g cap w2 hown2 hgrow hat hglt; (have hf2 : w2.frozen? ⟨b, 0, none⟩ = false := by rw [hgrow.frozen_far _ (by simp; omega) (Ne.symm hne)]; exact (World.frozen?_alloc_old wr _ ⟨b, 0, none⟩ (Nat.ne_of_lt hbl)).trans hsf); (have hc2 : w2.cell? ⟨b, 0, none⟩ = some sv := by rw [hgrow.cell_far _ (by simp; omega) (Ne.symm hne)]; exact (World.cell?_alloc_lt wr _ ⟨b, 0, none⟩ hbl).trans hsv))
      go_roundw
      case rel =>
        refine ⟨j + 1, some g, by omega, by rw [HX.out], by go_num, Wrt.stored hc2 hf2 ?_ ?_, ?_, (Hfj.out.alloc _).grown Hrj.out hgrow Hrow.out⟩
        · rw [HL.out, ← List.append_assoc, List.length_append, HLen.out]; simp
        · rw [HL.out, ← List.append_assoc, List.map_append]; exact hown2
        · rcases hat with h | h
          · have := Hrow.out; rw [h] at this; rw [this]; exact Hrj.out
          · exact .inr ⟨g, rfl, by have := Hfj.out.size; omega⟩
      case measure => simp [intOf]; omega
    · obtain rfl : j = 4 := by omega
      have hRb : w.heap.size ≠ b := by omega
      have hRr : some w.heap.size ≠ row := fun e => by have := HR0.out _ e.symm; omega
      obtain ⟨r0, r1, r2, r3⟩ := HS.out.fr Hfj.out hRb hRr HZ0.out
      have hzr := Hfj.out.size
      clear hWj hRb hRr
      have hrj : RowOk row rj w := by
        rcases Hrj.out with h | ⟨g, h, hg⟩
        · exact .inl h
        · exact .inr ⟨g, h, by have := HZ0.out; omega⟩
      have hrR : rj ≠ some w.heap.size := fun e => by
        rcases Hrj.out with h | ⟨g, h, hg⟩
        · have := HR0.out _ (h.symm.trans e); omega
        · rw [h] at e; injection e with e; have := HZ0.out; omega
      have Q1 := Lib.hid hrj
      have Q2 := Lib.hid hrR
      clear hrj hrR
      have P1 := Lib.hid ((HWj.out.setOther (p := ⟨w.heap.size, 0, none⟩) (.slice none 0 0) (Nat.ne_of_gt hbR) Q2.out).setOther (p := ⟨w.heap.size, 1, none⟩) (.int .i64 0) (Nat.ne_of_gt hbR) Q2.out)
      have P2 := Lib.hid ((Fr.after HB0.out Hfj.out).then_ (((Below.refl w.heap.size wr).setCell (p := ⟨w.heap.size, 0, none⟩) (Nat.le_refl _) (.slice none 0 0)).setCell (p := ⟨w.heap.size, 1, none⟩) (Nat.le_refl _) (.int .i64 0)))
      have hcs := res_cells r0 r1 (.slice none 0 0) (.int .i64 0)
      go_wp2
      generalize (wr.setCell ⟨w.heap.size, 0, none⟩ (.slice none 0 0)).setCell ⟨w.heap.size, 1, none⟩ (.int .i64 0) = wf at P1 P2 hcs ⊢
      obtain ⟨c0, c1⟩ := hcs
      exact bodyPost_ret (v := .agg #[.slice none 0 0, .int .i64 0]) (by simp [results, Tryz.results47, go_sem, c0, c1]) rfl ⟨rfl, rj, P1.out, Q1.out, P2.out⟩

set_option maxRecDepth 100000 in
set_option maxHeartbeats 1000000 in
theorem refnum8_ok (b : Nat) (row : Option Nat) (bs : List Int) (n : Int) (w : World) (hn0 : 0 ≤ n) (hn1 : n ≤ 9223372036854775807) (hW : Wrt w b row bs) (hl : bs.length ≤ 90000000) :
    Calls Tryz.prog 47 #[.pointer (some ⟨b, 0, none⟩), .int .i64 n, .int .i64 8] w fun e w' => e = .returned (.agg #[.slice none 0 0, .int .i64 0]) ∧
      ∃ row', Wrt w' b row' (bs ++ leb n 8) ∧ RowOk row row' w ∧ Fr b row w w' := by
  obtain ⟨i0, hi0, hz0, hz1, hz2⟩ := info_parts infoByte
  have hwd : Width 8 := by unfold Width; omega
  have hd : decide (n < 0) = false := by simp only [decide_eq_false_iff_not]; omega
  have HW := Lib.hid hW
  have hbR := hW.lt
  have hrow0 : ∀ g, row = some g → g < w.heap.size := fun g hg => (hW.row_lt hg).2
  have HR0 := Lib.hid hrow0
  have N1 := Lib.hid hn1
  clear hW hrow0 hn1
  go_enter Tryz.func47, Tryz.ntmps47
  go_wp2_with (go_at_call 81; refine (wide_yes _ _ hwd).mono ?_; rintro e w' ⟨rfl, rfl⟩)
  have hres : Res (w.alloc (.cells #[.slice none 0 0, .int .i64 0] 102)) w.heap.size := ⟨by simp, by simp, by simp, by simp⟩
  have hb0 : Below w.heap.size w (w.alloc (.cells #[.slice none 0 0, .int .i64 0] 102)) := (Below.refl _ _).alloc (Nat.le_refl _) _
  have hW0 := HW.out.below hb0
  have hz00 : w.heap.size < (w.alloc (.cells #[.slice none 0 0, .int .i64 0] 102)).heap.size := by simp
  have HS := Lib.hid hres
  have HB0 := Lib.hid hb0
  have HW0 := Lib.hid hW0
  have HZ0 := Lib.hid hz00
  clear hres hb0 hW0 hz00
  generalize w.alloc (.cells #[.slice none 0 0, .int .i64 0] 102) = w0 at HS HB0 HW0 HZ0 ⊢
  go_loopw [1, 7] (fun x i wr => ∃ (j : Nat) (rj : Option Nat), j ≤ 8 ∧ x = .int .i64 (n / 256 ^ j) ∧ i = .int .i64 j ∧ Wrt wr b rj (bs ++ leb n j) ∧ RowOk row rj w0 ∧ Fr b row w0 wr) (fun _ i _ => 8 - (intOf i).toNat)
  case atStart => exact ⟨0, row, by omega, by simp, rfl, by simpa [leb] using HW0.out, .inl rfl, Fr.refl _ _ _⟩
  case round =>
    obtain ⟨j, rj, hj, rfl, rfl, hWj, hrj, hfj⟩ := hrel
    have HWj := Lib.hid hWj
    have Hrj := Lib.hid hrj
    have Hfj := Lib.hid hfj
    clear hrj hfj
    by_cases hlt : j < 8
    · obtain ⟨sv, hsv, hsf, hown, hrow⟩ := hWj
      have hlen : (bs ++ leb n j).length = bs.length + j := by rw [List.length_append, leb_len n j (by omega)]
      rw [hlen] at hown
      have hbl := cell_lt hsv
      have hne : sv.ownBlock ≠ some b := fun h => by have := (hown.lt b h).1; omega
      have hX0 : 0 ≤ n / 256 ^ j := Int.ediv_nonneg hn0 (Int.pow_nonneg (by decide))
      have hX1 : n / 256 ^ j ≤ 9223372036854775807 := Int.le_trans (Int.ediv_le_self _ hn0) (by have := N1.out; omega)
      have HX := Lib.hid (pow_div n j)
      have HL := Lib.hid (leb_succ n j (by omega))
      have HLen := Lib.hid hlen
      have Hrow := Lib.hid hrow
      have hjI : (j : Int) < 8 := by omega
      generalize n / 256 ^ j = X at hX0 hX1 HX HL ⊢
      clear hlen hrow
      go_wp2_with (at_builtin; refine wpList_append_lies _ rfl (.tmp 42) (.tmp 46) 73 rfl (b + 1) 5 i0 _ 1 1 Tryz.underlying73 hi0 hz0 hz1 hz2 rfl (by decide) sv _ _ rfl (hown.alloc _) ⟨wr.heap.size, 0, none⟩ 1 1 [.int .u8 (X % 256)] rfl rfl (World.news_of_block (cs := #[.int .u8 (X % 256)]) (t := 5) (fr := (0, 0)) (heap_alloc_new wr _)) (by simp [Value.oneCell']) (by decide) (by unfold maxLen; omega) (by omega) (by simp; omega) (wr.heap.size + 1) (by simp) ?_; intro g cap w2 hown2 hgrow hat hglt; (have hf2 : w2.frozen? ⟨b, 0, none⟩ = false := by rw [hgrow.frozen_far _ (by simp; omega) (Ne.symm hne)]; exact (World.frozen?_alloc_old wr _ ⟨b, 0, none⟩ (Nat.ne_of_lt hbl)).trans hsf); (have hc2 : w2.cell? ⟨b, 0, none⟩ = some sv := by rw [hgrow.cell_far _ (by simp; omega) (Ne.symm hne)]; exact (World.cell?_alloc_lt wr _ ⟨b, 0, none⟩ hbl).trans hsv))
      go_roundw
      case rel =>
        refine ⟨j + 1, some g, by omega, by rw [HX.out], by go_num, Wrt.stored hc2 hf2 ?_ ?_, ?_, (Hfj.out.alloc _).grown Hrj.out hgrow Hrow.out⟩
        · rw [HL.out, ← List.append_assoc, List.length_append, HLen.out]; simp
        · rw [HL.out, ← List.append_assoc, List.map_append]; exact hown2
        · rcases hat with h | h
          · have := Hrow.out; rw [h] at this; rw [this]; exact Hrj.out
          · exact .inr ⟨g, rfl, by have := Hfj.out.size; omega⟩
      case measure => simp [intOf]; omega
    · obtain rfl : j = 8 := by omega
      have hRb : w.heap.size ≠ b := by omega
      have hRr : some w.heap.size ≠ row := fun e => by have := HR0.out _ e.symm; omega
      obtain ⟨r0, r1, r2, r3⟩ := HS.out.fr Hfj.out hRb hRr HZ0.out
      have hzr := Hfj.out.size
      clear hWj hRb hRr
      have hrj : RowOk row rj w := by
        rcases Hrj.out with h | ⟨g, h, hg⟩
        · exact .inl h
        · exact .inr ⟨g, h, by have := HZ0.out; omega⟩
      have hrR : rj ≠ some w.heap.size := fun e => by
        rcases Hrj.out with h | ⟨g, h, hg⟩
        · have := HR0.out _ (h.symm.trans e); omega
        · rw [h] at e; injection e with e; have := HZ0.out; omega
      have Q1 := Lib.hid hrj
      have Q2 := Lib.hid hrR
      clear hrj hrR
      have P1 := Lib.hid ((HWj.out.setOther (p := ⟨w.heap.size, 0, none⟩) (.slice none 0 0) (Nat.ne_of_gt hbR) Q2.out).setOther (p := ⟨w.heap.size, 1, none⟩) (.int .i64 0) (Nat.ne_of_gt hbR) Q2.out)
      have P2 := Lib.hid ((Fr.after HB0.out Hfj.out).then_ (((Below.refl w.heap.size wr).setCell (p := ⟨w.heap.size, 0, none⟩) (Nat.le_refl _) (.slice none 0 0)).setCell (p := ⟨w.heap.size, 1, none⟩) (Nat.le_refl _) (.int .i64 0)))
      have hcs := res_cells r0 r1 (.slice none 0 0) (.int .i64 0)
      go_wp2
      generalize (wr.setCell ⟨w.heap.size, 0, none⟩ (.slice none 0 0)).setCell ⟨w.heap.size, 1, none⟩ (.int .i64 0) = wf at P1 P2 hcs ⊢
      obtain ⟨c0, c1⟩ := hcs
      exact bodyPost_ret (v := .agg #[.slice none 0 0, .int .i64 0]) (by simp [results, Tryz.results47, go_sem, c0, c1]) rfl ⟨rfl, rj, P1.out, Q1.out, P2.out⟩

theorem refnum_ok (b : Nat) (row : Option Nat) (bs : List Int) (n k : Int) (w : World) (hf : Fits n k) (hW : Wrt w b row bs) (hl : bs.length ≤ 90000000) :
    Calls Tryz.prog 47 #[.pointer (some ⟨b, 0, none⟩), .int .i64 n, .int .i64 k] w fun e w' => e = .returned (.agg #[.slice none 0 0, .int .i64 0]) ∧
      ∃ row', Wrt w' b row' (bs ++ leb n k.toNat) ∧ RowOk row row' w ∧ Fr b row w w' := by
  obtain ⟨h0, ⟨rfl, h⟩ | ⟨rfl, h⟩ | ⟨rfl, h⟩ | ⟨rfl, h⟩⟩ := hf
  · exact refnum1_ok b row bs n w h0 h hW hl
  · exact refnum2_ok b row bs n w h0 h hW hl
  · exact refnum4_ok b row bs n w h0 h hW hl
  · exact refnum8_ok b row bs n w h0 h hW hl

set_option maxRecDepth 100000 in
theorem refnum_bad_of (b : Nat) (row : Option Nat) (bs : List Int) (n k : Int) (w : World) (hW : Wrt w b row bs)
    (ht : ¬ Width k ∨ Width k ∧ (n < 0 ∨ (k = 1 ∧ 256 ≤ n ∨ k = 2 ∧ 65536 ≤ n ∨ k = 4 ∧ 4294967296 ≤ n))) :
    Calls Tryz.prog 47 #[.pointer (some ⟨b, 0, none⟩), .int .i64 n, .int .i64 k] w fun e w' => ∃ A at_, e = .returned (.agg #[.slice A 1 1, .int .i64 at_]) ∧ RF w' A 1 1 [1] ∧ Below w.heap.size w w' := by
  obtain ⟨s, hs, hsf, hown, hrow⟩ := hW
  have hbl := cell_lt hs
  have hs1 : ∀ o, (w.alloc o).cell? ⟨b, 0, none⟩ = some s := fun o => by rw [World.cell?_alloc_lt _ _ ⟨b, 0, none⟩ hbl]; exact hs
  have hsl : ∃ A c, s = .slice A bs.length c := by
    rcases owned_form hown with ⟨rfl, _, h⟩ | ⟨g, cap, rfl, _⟩
    · exact ⟨none, 0, by rw [h]⟩
    · exact ⟨_, _, rfl⟩
  obtain ⟨sA, sc, rfl⟩ := hsl
  clear hown hrow hsf hs
  have hres : Res (w.alloc (.cells #[.slice none 0 0, .int .i64 0] 102)) w.heap.size := ⟨by simp, by simp, by simp, by simp⟩
  have hb0 : Below w.heap.size w (w.alloc (.cells #[.slice none 0 0, .int .i64 0] 102)) := (Below.refl _ _).alloc (Nat.le_refl _) _
  have hz00 : w.heap.size < (w.alloc (.cells #[.slice none 0 0, .int .i64 0] 102)).heap.size := by simp
  have HS := Lib.hid hres
  have HB0 := Lib.hid hb0
  have HZ0 := Lib.hid hz00
  have hsw := hs1 (.cells #[.slice none 0 0, .int .i64 0] 102)
  clear hres hb0 hz00 hs1
  rcases ht with hk | ⟨hk, hn | ⟨rfl, hn⟩ | ⟨rfl, hn⟩ | ⟨rfl, hn⟩⟩
  · go_enter Tryz.func47, Tryz.ntmps47
    go_wp2_with fail
    go_at_call 81
    refine (wide_no _ _ hk).mono ?_
    rintro e w' ⟨rfl, rfl⟩
    go_wp2_with fail
    go_at_call 82
    refine (one_any 1 _ _).mono ?_
    rintro e w1 ⟨A, rfl, hA, hg, hb⟩
    obtain ⟨r0, r1, r2, r3⟩ := HS.out.below hb HZ0.out
    have hgR : ∀ g, A = some ⟨g, 0, none⟩ → w.heap.size ≠ g := fun g h => by have := hg g h; have := HZ0.out; omega
    have P1 := Lib.hid ((hA.setOther (p := ⟨w.heap.size, 0, none⟩) (.slice A 1 1) hgR).setOther (p := ⟨w.heap.size, 1, none⟩) (.int .i64 bs.length) hgR)
    have P2 := Lib.hid (HB0.out.trans (((hb.mono (Nat.le_of_lt HZ0.out)).setCell (p := ⟨w.heap.size, 0, none⟩) (Nat.le_refl _) (.slice A 1 1)).setCell (p := ⟨w.heap.size, 1, none⟩) (Nat.le_refl _) (.int .i64 bs.length)))
    have hcs := res_cells r0 r1 (.slice A 1 1) (.int .i64 bs.length)
    clear hA hg hb hgR
    go_wp2
    generalize (w1.setCell ⟨w.heap.size, 0, none⟩ (.slice A 1 1)).setCell ⟨w.heap.size, 1, none⟩ (.int .i64 bs.length) = wf at P1 P2 hcs ⊢
    obtain ⟨c0, c1⟩ := hcs
    exact bodyPost_ret (v := .agg #[.slice A 1 1, .int .i64 bs.length]) (by simp [results, Tryz.results47, go_sem, c0, c1]) rfl ⟨A, _, rfl, P1.out, P2.out⟩
  · have hd : decide (n < 0) = true := by simp only [decide_eq_true_eq]; omega
    go_enter Tryz.func47, Tryz.ntmps47
    go_wp2_with fail
    go_at_call 81
    refine (wide_yes _ _ hk).mono ?_
    rintro e w' ⟨rfl, rfl⟩
    go_wp2_with fail
    go_at_call 82
    refine (one_any 1 _ _).mono ?_
    rintro e w1 ⟨A, rfl, hA, hg, hb⟩
    obtain ⟨r0, r1, r2, r3⟩ := HS.out.below hb HZ0.out
    have hgR : ∀ g, A = some ⟨g, 0, none⟩ → w.heap.size ≠ g := fun g h => by have := hg g h; have := HZ0.out; omega
    have P1 := Lib.hid ((hA.setOther (p := ⟨w.heap.size, 0, none⟩) (.slice A 1 1) hgR).setOther (p := ⟨w.heap.size, 1, none⟩) (.int .i64 bs.length) hgR)
    have P2 := Lib.hid (HB0.out.trans (((hb.mono (Nat.le_of_lt HZ0.out)).setCell (p := ⟨w.heap.size, 0, none⟩) (Nat.le_refl _) (.slice A 1 1)).setCell (p := ⟨w.heap.size, 1, none⟩) (Nat.le_refl _) (.int .i64 bs.length)))
    have hcs := res_cells r0 r1 (.slice A 1 1) (.int .i64 bs.length)
    clear hA hg hb hgR
    go_wp2
    generalize (w1.setCell ⟨w.heap.size, 0, none⟩ (.slice A 1 1)).setCell ⟨w.heap.size, 1, none⟩ (.int .i64 bs.length) = wf at P1 P2 hcs ⊢
    obtain ⟨c0, c1⟩ := hcs
    exact bodyPost_ret (v := .agg #[.slice A 1 1, .int .i64 bs.length]) (by simp [results, Tryz.results47, go_sem, c0, c1]) rfl ⟨A, _, rfl, P1.out, P2.out⟩
  · have hd : decide (n < 0) = false := by simp only [decide_eq_false_iff_not]; omega
    have hd2 : decide ((256 : Int) ≤ n) = true := by simp only [decide_eq_true_eq]; omega
    go_enter Tryz.func47, Tryz.ntmps47
    go_wp2_with fail
    go_at_call 81
    refine (wide_yes _ _ hk).mono ?_
    rintro e w' ⟨rfl, rfl⟩
    go_wp2_with fail
    go_at_call 82
    refine (one_any 1 _ _).mono ?_
    rintro e w1 ⟨A, rfl, hA, hg, hb⟩
    obtain ⟨r0, r1, r2, r3⟩ := HS.out.below hb HZ0.out
    have hgR : ∀ g, A = some ⟨g, 0, none⟩ → w.heap.size ≠ g := fun g h => by have := hg g h; have := HZ0.out; omega
    have P1 := Lib.hid ((hA.setOther (p := ⟨w.heap.size, 0, none⟩) (.slice A 1 1) hgR).setOther (p := ⟨w.heap.size, 1, none⟩) (.int .i64 bs.length) hgR)
    have P2 := Lib.hid (HB0.out.trans (((hb.mono (Nat.le_of_lt HZ0.out)).setCell (p := ⟨w.heap.size, 0, none⟩) (Nat.le_refl _) (.slice A 1 1)).setCell (p := ⟨w.heap.size, 1, none⟩) (Nat.le_refl _) (.int .i64 bs.length)))
    have hcs := res_cells r0 r1 (.slice A 1 1) (.int .i64 bs.length)
    clear hA hg hb hgR
    go_wp2
    generalize (w1.setCell ⟨w.heap.size, 0, none⟩ (.slice A 1 1)).setCell ⟨w.heap.size, 1, none⟩ (.int .i64 bs.length) = wf at P1 P2 hcs ⊢
    obtain ⟨c0, c1⟩ := hcs
    exact bodyPost_ret (v := .agg #[.slice A 1 1, .int .i64 bs.length]) (by simp [results, Tryz.results47, go_sem, c0, c1]) rfl ⟨A, _, rfl, P1.out, P2.out⟩
  · have hd : decide (n < 0) = false := by simp only [decide_eq_false_iff_not]; omega
    have hd2 : decide ((65536 : Int) ≤ n) = true := by simp only [decide_eq_true_eq]; omega
    go_enter Tryz.func47, Tryz.ntmps47
    go_wp2_with fail
    go_at_call 81
    refine (wide_yes _ _ hk).mono ?_
    rintro e w' ⟨rfl, rfl⟩
    go_wp2_with fail
    go_at_call 82
    refine (one_any 1 _ _).mono ?_
    rintro e w1 ⟨A, rfl, hA, hg, hb⟩
    obtain ⟨r0, r1, r2, r3⟩ := HS.out.below hb HZ0.out
    have hgR : ∀ g, A = some ⟨g, 0, none⟩ → w.heap.size ≠ g := fun g h => by have := hg g h; have := HZ0.out; omega
    have P1 := Lib.hid ((hA.setOther (p := ⟨w.heap.size, 0, none⟩) (.slice A 1 1) hgR).setOther (p := ⟨w.heap.size, 1, none⟩) (.int .i64 bs.length) hgR)
    have P2 := Lib.hid (HB0.out.trans (((hb.mono (Nat.le_of_lt HZ0.out)).setCell (p := ⟨w.heap.size, 0, none⟩) (Nat.le_refl _) (.slice A 1 1)).setCell (p := ⟨w.heap.size, 1, none⟩) (Nat.le_refl _) (.int .i64 bs.length)))
    have hcs := res_cells r0 r1 (.slice A 1 1) (.int .i64 bs.length)
    clear hA hg hb hgR
    go_wp2
    generalize (w1.setCell ⟨w.heap.size, 0, none⟩ (.slice A 1 1)).setCell ⟨w.heap.size, 1, none⟩ (.int .i64 bs.length) = wf at P1 P2 hcs ⊢
    obtain ⟨c0, c1⟩ := hcs
    exact bodyPost_ret (v := .agg #[.slice A 1 1, .int .i64 bs.length]) (by simp [results, Tryz.results47, go_sem, c0, c1]) rfl ⟨A, _, rfl, P1.out, P2.out⟩
  · have hd : decide (n < 0) = false := by simp only [decide_eq_false_iff_not]; omega
    have hd2 : decide ((4294967296 : Int) ≤ n) = true := by simp only [decide_eq_true_eq]; omega
    go_enter Tryz.func47, Tryz.ntmps47
    go_wp2_with fail
    go_at_call 81
    refine (wide_yes _ _ hk).mono ?_
    rintro e w' ⟨rfl, rfl⟩
    go_wp2_with fail
    go_at_call 82
    refine (one_any 1 _ _).mono ?_
    rintro e w1 ⟨A, rfl, hA, hg, hb⟩
    obtain ⟨r0, r1, r2, r3⟩ := HS.out.below hb HZ0.out
    have hgR : ∀ g, A = some ⟨g, 0, none⟩ → w.heap.size ≠ g := fun g h => by have := hg g h; have := HZ0.out; omega
    have P1 := Lib.hid ((hA.setOther (p := ⟨w.heap.size, 0, none⟩) (.slice A 1 1) hgR).setOther (p := ⟨w.heap.size, 1, none⟩) (.int .i64 bs.length) hgR)
    have P2 := Lib.hid (HB0.out.trans (((hb.mono (Nat.le_of_lt HZ0.out)).setCell (p := ⟨w.heap.size, 0, none⟩) (Nat.le_refl _) (.slice A 1 1)).setCell (p := ⟨w.heap.size, 1, none⟩) (Nat.le_refl _) (.int .i64 bs.length)))
    have hcs := res_cells r0 r1 (.slice A 1 1) (.int .i64 bs.length)
    clear hA hg hb hgR
    go_wp2
    generalize (w1.setCell ⟨w.heap.size, 0, none⟩ (.slice A 1 1)).setCell ⟨w.heap.size, 1, none⟩ (.int .i64 bs.length) = wf at P1 P2 hcs ⊢
    obtain ⟨c0, c1⟩ := hcs
    exact bodyPost_ret (v := .agg #[.slice A 1 1, .int .i64 bs.length]) (by simp [results, Tryz.results47, go_sem, c0, c1]) rfl ⟨A, _, rfl, P1.out, P2.out⟩

theorem refnum_bad (b : Nat) (row : Option Nat) (bs : List Int) (n k : Int) (w : World) (hf : ¬ Fits n k) (h1 : n ≤ 9223372036854775807) (hW : Wrt w b row bs) :
    Calls Tryz.prog 47 #[.pointer (some ⟨b, 0, none⟩), .int .i64 n, .int .i64 k] w fun e w' => ∃ A at_, e = .returned (.agg #[.slice A 1 1, .int .i64 at_]) ∧ RF w' A 1 1 [1] ∧ Below w.heap.size w w' := by
  refine refnum_bad_of b row bs n k w hW ?_
  unfold Fits at hf
  by_cases hk : Width k
  · refine .inr ⟨hk, ?_⟩; unfold Width at hk; omega
  · exact .inl hk
end Go.Proofs.YtmmpknfkncgjpaaGreatDoor
