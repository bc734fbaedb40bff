/-
  The document's own answers of layer 1 (weirkeepref01), by contracts: wide, one, a fault's Code, Same; alike.

  The document's writer (weirkeepref01), by contracts: its Num.

  The document's writer (weirkeepref01), by contracts: its Text, its Bytes.

  The document's reader (weirkeepref01), by contracts: its Num.
-/
import Derived.Test.YtacbodojbekeeaaDoorTwo
import Derived.Deep.RegionHeld3
namespace Go.Proofs.YtacbodojbekeeaaDoor
open Go.RowKit Go.Extern.Stop Go.Stop Go.Extern Go.PlainAid Go.Lib

theorem wide_yes (k : Int) (w : World) (h : Width k) :
    Calls Tryd.prog 64 #[.int .i64 k] w fun e w' => e = .returned (.bool true) ∧ w = w' := by
  rcases h with rfl | rfl | rfl | rfl
  all_goals
    go_enter Tryd.func64, Tryd.ntmps64
    go_wp2
    go_ret
    exact ⟨rfl, rfl⟩
theorem wide_no (k : Int) (w : World) (h : ¬ Width k) :
    Calls Tryd.prog 64 #[.int .i64 k] w fun e w' => e = .returned (.bool false) ∧ w = w' := by
  have k1 : (k == 1) = false := by simp only [beq_eq_false_iff_ne]; exact fun e => h (.inl e)
  have k2 : (k == 2) = false := by simp only [beq_eq_false_iff_ne]; exact fun e => h (.inr (.inl e))
  have k4 : (k == 4) = false := by simp only [beq_eq_false_iff_ne]; exact fun e => h (.inr (.inr (.inl e)))
  have k8 : (k == 8) = false := by simp only [beq_eq_false_iff_ne]; exact fun e => h (.inr (.inr (.inr e)))
  clear h
  go_enter Tryd.func64, Tryd.ntmps64
  go_wp2
  go_ret
  exact ⟨rfl, rfl⟩

/-- A fault of the document's: its errors es, in memory. -/
def RF (w : World) (A : Option Addr) (n c : Nat) (es : List Int) : Prop :=
  es.length = n ∧ n ≤ c ∧ (es = [] ∧ A = none ∧ c = 0 ∨ ∃ g, A = some ⟨g, 0, none⟩ ∧ ∀ j x, es[j]? = some x → w.cell? ⟨g, j, none⟩ = some (.int .i64 x))

theorem RF.below {w w' : World} {A : Option Addr} {n c : Nat} {es : List Int} (h : RF w A n c es) (hb : Below w.heap.size w w') : RF w' A n c es := by
  obtain ⟨h1, h2, h3⟩ := h
  refine ⟨h1, h2, ?_⟩
  rcases h3 with h3 | ⟨g, hA, hc⟩
  · exact .inl h3
  · exact .inr ⟨g, hA, fun j x hx => by rw [hb.cell (p := ⟨g, j, none⟩) (cell_lt (hc j x hx))]; exact hc j x hx⟩
theorem RF.none_ {w : World} : RF w none 0 0 [] := ⟨rfl, Nat.le_refl _, .inl ⟨rfl, rfl, rfl⟩⟩

theorem one_any (E at_ : Int) (w : World) :
    Calls Tryd.prog 65 #[.int .i64 E, .int .i64 at_] w fun e w' => ∃ A, e = .returned (.agg #[.slice A 1 1, .int .i64 at_]) ∧ RF w' A 1 1 [E] ∧ (∀ g, A = some ⟨g, 0, none⟩ → w.heap.size ≤ g) ∧ Below w.heap.size w w' := by
  go_enter Tryd.func65, Tryd.ntmps65
  go_wp2
  go_returns
  refine ⟨_, rfl, ⟨rfl, Nat.le_refl _, .inr ⟨_, rfl, fun j x hx => ?_⟩⟩, fun g hg => ?_, by go_grown⟩
  · match j, hx with
    | 0, hx => simp at hx; subst hx; simp
  · injection hg with hg; injection hg with hg; omega
theorem RF.setOther {w : World} {A : Option Addr} {n c : Nat} {es : List Int} (h : RF w A n c es) {p : Addr} (u : Value) (hp : ∀ g, A = some ⟨g, 0, none⟩ → p.block ≠ g) : RF (w.setCell p u) A n c es := by
  obtain ⟨h1, h2, h3⟩ := h
  refine ⟨h1, h2, ?_⟩
  rcases h3 with h3 | ⟨g, hA, hc⟩
  · exact .inl h3
  · refine .inr ⟨g, hA, fun j x hx => ?_⟩
    rw [World.cell?_setCell_other _ _ _ _ (fun e => hp g hA (by rw [e]))]
    exact hc j x hx

/-- A fault's Code. -/
theorem rcode_any (A : Option Addr) (n c : Nat) (es : List Int) (at_ : Int) (w : World) (h : RF w A n c es) (hn : n ≤ 1000) :
    Calls Tryd.prog 50 #[.agg #[.slice A n c, .int .i64 at_]] w fun e w' => e = .returned (.int .i64 (es.headD 0)) ∧ Below w.heap.size w w' := by
  obtain ⟨h1, h2, h3⟩ := h
  cases es with
  | nil =>
    obtain rfl : n = 0 := h1.symm
    clear h3
    go_enter Tryd.func50, Tryd.ntmps50
    go_wp2
    go_ret
    exact ⟨rfl, by go_grown⟩
  | cons x es =>
    rcases h3 with ⟨h, _⟩ | ⟨g, rfl, hc⟩
    · cases h
    · have hx := hc 0 x rfl
      have hgl := cell_lt hx
      have hx1 : ∀ o, (w.alloc o).cell? ⟨g, 0, none⟩ = some (.int .i64 x) := fun o => by rw [World.cell?_alloc_lt _ _ ⟨g, 0, none⟩ hgl]; exact hx
      have hpos : (0 : Int) < (n : Int) := by simp at h1; omega
      have hne : ((n : Int) == 0) = false := by simp only [beq_eq_false_iff_ne]; omega
      clear hc h1
      go_enter Tryd.func50, Tryd.ntmps50
      go_wp2
      go_ret
      exact ⟨rfl, by go_grown⟩
end Go.Proofs.YtacbodojbekeeaaDoor

namespace Go.Proofs.YtacbodojbekeeaaDoor
open Go.RowKit Go.Extern.Stop Go.Stop Go.Extern Go.PlainAid Go.Lib

theorem Fr.refl (b : Nat) (row : Option Nat) (w : World) : Fr b row w w := ⟨rfl, rfl, rfl, Nat.le_refl _, fun _ _ _ _ => rfl⟩
theorem Fr.alloc {b : Nat} {row : Option Nat} {w w1 : World} (h : Fr b row w w1) (o : Obj) : Fr b row w (w1.alloc o) :=
  ⟨h.os, h.tape, h.output, by have := h.size; simp; omega, fun k hk h1 h2 => by rw [Below.heap_alloc w1 o k (by have := h.size; omega)]; exact h.block k hk h1 h2⟩
/-- Below ahead, then such a step, then a store into a new block. -/
theorem Fr.after {b : Nat} {row : Option Nat} {w w0 w1 : World} (hb : Below w.heap.size w w0) (h : Fr b row w0 w1) : Fr b row w w1 :=
  ⟨h.os.trans hb.os, h.tape.trans hb.tape, h.output.trans hb.output, Nat.le_trans hb.size h.size, fun k hk h1 h2 => (h.block k (Nat.lt_of_lt_of_le hk hb.size) h1 h2).trans (hb.block k hk)⟩
theorem Fr.then_ {b : Nat} {row : Option Nat} {w w1 w2 : World} (h : Fr b row w w1) (hb : Below w.heap.size w1 w2) : Fr b row w w2 :=
  ⟨hb.os.trans h.os, hb.tape.trans h.tape, hb.output.trans h.output, Nat.le_trans h.size hb.size, fun k hk h1 h2 => (hb.block k hk).trans (h.block k hk h1 h2)⟩
theorem RowOk.trans {r1 r2 r3 : Option Nat} {w w' : World} (h : RowOk r1 r2 w) (h' : RowOk r2 r3 w') (hz : w.heap.size ≤ w'.heap.size) : RowOk r1 r3 w := by
  rcases h' with rfl | ⟨g, rfl, hg⟩
  · exact h
  · exact .inr ⟨g, rfl, by omega⟩

theorem leb_succ (n : Int) (j : Nat) (hj : j < 8) : leb n (j + 1) = leb n j ++ [n / 256 ^ j % 256] := by
  obtain rfl | rfl | rfl | rfl | rfl | rfl | rfl | rfl : j = 0 ∨ j = 1 ∨ j = 2 ∨ j = 3 ∨ j = 4 ∨ j = 5 ∨ j = 6 ∨ j = 7 := by omega
  all_goals simp [leb]

theorem pow_div (n : Int) (j : Nat) : n / 256 ^ j / 256 = n / 256 ^ (j + 1) := by
  rw [Int.ediv_ediv_of_nonneg (Int.pow_nonneg (by decide)), Int.pow_succ]
/-- The result's cells, in a block that only this call has. -/
def Res (w : World) (R : Nat) : Prop := w.cell? ⟨R, 0, none⟩ = some (.slice none 0 0) ∧ w.cell? ⟨R, 1, none⟩ = some (.int .i64 0) ∧ w.frozen? ⟨R, 0, none⟩ = false ∧ w.frozen? ⟨R, 1, none⟩ = false
theorem Res.fr {w w' : World} {R b : Nat} {row : Option Nat} (h : Res w R) (hf : Fr b row w w') (h1 : R ≠ b) (h2 : some R ≠ row) (hl : R < w.heap.size) : Res w' R := by
  have hb := hf.block R hl h1 h2
  obtain ⟨a, c, d, e⟩ := h
  exact ⟨by rw [World.cell?_of_block (w := w) (a := ⟨R, 0, none⟩) hb]; exact a, by rw [World.cell?_of_block (w := w) (a := ⟨R, 1, none⟩) hb]; exact c, by rw [World.frozen?_of_block (w := w) (a := ⟨R, 0, none⟩) hb]; exact d, by rw [World.frozen?_of_block (w := w) (a := ⟨R, 1, none⟩) hb]; exact e⟩
theorem res_cells {w : World} {R : Nat} {x0 x1 : Value} (h0 : w.cell? ⟨R, 0, none⟩ = some x0) (h1 : w.cell? ⟨R, 1, none⟩ = some x1) (v0 v1 : Value) :
    ((w.setCell ⟨R, 0, none⟩ v0).setCell ⟨R, 1, none⟩ v1).cell? ⟨R, 0, none⟩ = some v0 ∧ ((w.setCell ⟨R, 0, none⟩ v0).setCell ⟨R, 1, none⟩ v1).cell? ⟨R, 1, none⟩ = some v1 := by
  have e1 : (w.setCell ⟨R, 0, none⟩ v0).cell? ⟨R, 1, none⟩ = some x1 := by rw [World.cell?_setCell_other _ _ _ _ (by simp)]; exact h1
  refine ⟨?_, World.cell?_setCell_same _ _ _ e1⟩
  rw [World.cell?_setCell_other _ _ _ _ (by simp)]; exact World.cell?_setCell_same _ _ _ h0
theorem Res.below {w w' : World} {R : Nat} (h : Res w R) (hb : Below w.heap.size w w') (hl : R < w.heap.size) : Res w' R :=
  h.fr (b := w.heap.size) (row := none) ⟨hb.os, hb.tape, hb.output, hb.size, fun k hk _ _ => hb.block k hk⟩ (by omega) (by simp) hl
theorem Wrt.setOther {w : World} {b : Nat} {row : Option Nat} {bs : List Int} (h : Wrt w b row bs) {p : Addr} (u : Value) (h1 : p.block ≠ b) (h2 : row ≠ some p.block) : Wrt (w.setCell p u) b row bs := by
  have hf : Fr p.block none w (w.setCell p u) := ⟨rfl, rfl, rfl, by simp [World.setCell], fun k _ hk _ => Below.heap_setCell _ _ _ _ hk⟩
  exact h.fr hf (Ne.symm h1) (by simp) (fun g hg => ⟨fun e => h2 (by rw [hg, e]), by simp⟩)

set_option maxRecDepth 100000 in
set_option maxHeartbeats 1000000 in
theorem refnum1_ok (b : Nat) (row : Option Nat) (bs : List Int) (n : Int) (w : World) (hn0 : 0 ≤ n) (hn1 : n < 256) (hW : Wrt w b row bs) (hl : bs.length ≤ 90000000) :
    Calls Tryd.prog 44 #[.pointer (some ⟨b, 0, none⟩), .int .i64 n, .int .i64 1] w fun e w' => e = .returned (.agg #[.slice none 0 0, .int .i64 0]) ∧
      ∃ row', Wrt w' b row' (bs ++ leb n 1) ∧ RowOk row row' w ∧ Fr b row w w' := by
  obtain ⟨i0, hi0, hz0, hz1, hz2⟩ := info_parts infoByte
  have hwd : Width 1 := by unfold Width; omega
  have hd : decide (n < 0) = false := by simp only [decide_eq_false_iff_not]; omega
  have hd2 : decide ((256 : Int) ≤ n) = false := by simp only [decide_eq_false_iff_not]; omega
  have HW := Lib.hid hW
  have hbR := hW.lt
  have hrow0 : ∀ g, row = some g → g < w.heap.size := fun g hg => (hW.row_lt hg).2
  have HR0 := Lib.hid hrow0
  have N1 := Lib.hid hn1
  clear hW hrow0 hn1
  go_enter Tryd.func44, Tryd.ntmps44
  go_wp2_with (go_at_call 64; refine (wide_yes _ _ hwd).mono ?_; rintro e w' ⟨rfl, rfl⟩)
  have hres : Res (w.alloc (.cells #[.slice none 0 0, .int .i64 0] 94)) w.heap.size := ⟨by simp, by simp, by simp, by simp⟩
  have hb0 : Below w.heap.size w (w.alloc (.cells #[.slice none 0 0, .int .i64 0] 94)) := (Below.refl _ _).alloc (Nat.le_refl _) _
  have hW0 := HW.out.below hb0
  have hz00 : w.heap.size < (w.alloc (.cells #[.slice none 0 0, .int .i64 0] 94)).heap.size := by simp
  have HS := Lib.hid hres
  have HB0 := Lib.hid hb0
  have HW0 := Lib.hid hW0
  have HZ0 := Lib.hid hz00
  clear hres hb0 hW0 hz00
  generalize w.alloc (.cells #[.slice none 0 0, .int .i64 0] 94) = w0 at HS HB0 HW0 HZ0 ⊢
  go_loopw [1, 7] (fun x i wr => ∃ (j : Nat) (rj : Option Nat), j ≤ 1 ∧ x = .int .i64 (n / 256 ^ j) ∧ i = .int .i64 j ∧ Wrt wr b rj (bs ++ leb n j) ∧ RowOk row rj w0 ∧ Fr b row w0 wr) (fun _ i _ => 1 - (intOf i).toNat)
  case atStart => exact ⟨0, row, by omega, by simp, rfl, by simpa [leb] using HW0.out, .inl rfl, Fr.refl _ _ _⟩
  case round =>
    obtain ⟨j, rj, hj, rfl, rfl, hWj, hrj, hfj⟩ := hrel
    have HWj := Lib.hid hWj
    have Hrj := Lib.hid hrj
    have Hfj := Lib.hid hfj
    clear hrj hfj
    by_cases hlt : j < 1
    · obtain ⟨sv, hsv, hsf, hown, hrow⟩ := hWj
      have hlen : (bs ++ leb n j).length = bs.length + j := by rw [List.length_append, leb_len n j (by omega)]
      rw [hlen] at hown
      have hbl := cell_lt hsv
      have hne : sv.ownBlock ≠ some b := fun h => by have := (hown.lt b h).1; omega
      have hX0 : 0 ≤ n / 256 ^ j := Int.ediv_nonneg hn0 (Int.pow_nonneg (by decide))
      have hX1 : n / 256 ^ j ≤ 9223372036854775807 := Int.le_trans (Int.ediv_le_self _ hn0) (by have := N1.out; omega)
      have HX := Lib.hid (pow_div n j)
      have HL := Lib.hid (leb_succ n j (by omega))
      have HLen := Lib.hid hlen
      have Hrow := Lib.hid hrow
      have hjI : (j : Int) < 1 := by omega
      generalize n / 256 ^ j = X at hX0 hX1 HX HL ⊢
      clear hlen hrow
      go_wp2_with (at_builtin; refine wpList_append_lies _ rfl (.tmp 42) (.tmp 46) 89 rfl (b + 1) 5 i0 _ 1 1 Tryd.underlying89 hi0 hz0 hz1 hz2 rfl (by decide) sv _ _ rfl (hown.alloc _) ⟨wr.heap.size, 0, none⟩ 1 1 [.int .u8 (X % 256)] rfl rfl (World.news_of_block (cs := #[.int .u8 (X % 256)]) (t := 5) (fr := (0, 0)) (heap_alloc_new wr _)) (by simp [Value.oneCell']) (by decide) (by unfold maxLen; omega) (by omega) (by simp; omega) (wr.heap.size + 1) (by simp) ?_; intro g cap w2 hown2 hgrow hat hglt; (have hf2 : w2.frozen? ⟨b, 0, none⟩ = false := by rw [hgrow.frozen_far _ (by simp; omega) (Ne.symm hne)]; exact (World.frozen?_alloc_old wr _ ⟨b, 0, none⟩ (Nat.ne_of_lt hbl)).trans hsf); (have hc2 : w2.cell? ⟨b, 0, none⟩ = some sv := by rw [hgrow.cell_far _ (by simp; omega) (Ne.symm hne)]; exact (World.cell?_alloc_lt wr _ ⟨b, 0, none⟩ hbl).trans hsv))
      go_roundw
      case rel =>
        refine ⟨j + 1, some g, by omega, by rw [HX.out], by go_num, Wrt.stored hc2 hf2 ?_ ?_, ?_, (Hfj.out.alloc _).grown Hrj.out hgrow Hrow.out⟩
        · rw [HL.out, ← List.append_assoc, List.length_append, HLen.out]; simp
        · rw [HL.out, ← List.append_assoc, List.map_append]; exact hown2
        · rcases hat with h | h
          · have := Hrow.out; rw [h] at this; rw [this]; exact Hrj.out
          · exact .inr ⟨g, rfl, by have := Hfj.out.size; omega⟩
      case measure => simp [intOf]; omega
    · obtain rfl : j = 1 := by omega
      have hRb : w.heap.size ≠ b := by omega
      have hRr : some w.heap.size ≠ row := fun e => by have := HR0.out _ e.symm; omega
      obtain ⟨r0, r1, r2, r3⟩ := HS.out.fr Hfj.out hRb hRr HZ0.out
      have hzr := Hfj.out.size
      clear hWj hRb hRr
      have hrj : RowOk row rj w := by
        rcases Hrj.out with h | ⟨g, h, hg⟩
        · exact .inl h
        · exact .inr ⟨g, h, by have := HZ0.out; omega⟩
      have hrR : rj ≠ some w.heap.size := fun e => by
        rcases Hrj.out with h | ⟨g, h, hg⟩
        · have := HR0.out _ (h.symm.trans e); omega
        · rw [h] at e; injection e with e; have := HZ0.out; omega
      have Q1 := Lib.hid hrj
      have Q2 := Lib.hid hrR
      clear hrj hrR
      have P1 := Lib.hid ((HWj.out.setOther (p := ⟨w.heap.size, 0, none⟩) (.slice none 0 0) (Nat.ne_of_gt hbR) Q2.out).setOther (p := ⟨w.heap.size, 1, none⟩) (.int .i64 0) (Nat.ne_of_gt hbR) Q2.out)
      have P2 := Lib.hid ((Fr.after HB0.out Hfj.out).then_ (((Below.refl w.heap.size wr).setCell (p := ⟨w.heap.size, 0, none⟩) (Nat.le_refl _) (.slice none 0 0)).setCell (p := ⟨w.heap.size, 1, none⟩) (Nat.le_refl _) (.int .i64 0)))
      have hcs := res_cells r0 r1 (.slice none 0 0) (.int .i64 0)
      go_wp2
      generalize (wr.setCell ⟨w.heap.size, 0, none⟩ (.slice none 0 0)).setCell ⟨w.heap.size, 1, none⟩ (.int .i64 0) = wf at P1 P2 hcs ⊢
      obtain ⟨c0, c1⟩ := hcs
      exact bodyPost_ret (v := .agg #[.slice none 0 0, .int .i64 0]) (by simp [results, Tryd.results44, go_sem, c0, c1]) rfl ⟨rfl, rj, P1.out, Q1.out, P2.out⟩

set_option maxRecDepth 100000 in
set_option maxHeartbeats 1000000 in
theorem refnum2_ok (b : Nat) (row : Option Nat) (bs : List Int) (n : Int) (w : World) (hn0 : 0 ≤ n) (hn1 : n < 65536) (hW : Wrt w b row bs) (hl : bs.length ≤ 90000000) :
    Calls Tryd.prog 44 #[.pointer (some ⟨b, 0, none⟩), .int .i64 n, .int .i64 2] w fun e w' => e = .returned (.agg #[.slice none 0 0, .int .i64 0]) ∧
      ∃ row', Wrt w' b row' (bs ++ leb n 2) ∧ RowOk row row' w ∧ Fr b row w w' := by
  obtain ⟨i0, hi0, hz0, hz1, hz2⟩ := info_parts infoByte
  have hwd : Width 2 := by unfold Width; omega
  have hd : decide (n < 0) = false := by simp only [decide_eq_false_iff_not]; omega
  have hd2 : decide ((65536 : Int) ≤ n) = false := by simp only [decide_eq_false_iff_not]; omega
  have HW := Lib.hid hW
  have hbR := hW.lt
  have hrow0 : ∀ g, row = some g → g < w.heap.size := fun g hg => (hW.row_lt hg).2
  have HR0 := Lib.hid hrow0
  have N1 := Lib.hid hn1
  clear hW hrow0 hn1
  go_enter Tryd.func44, Tryd.ntmps44
  go_wp2_with (go_at_call 64; refine (wide_yes _ _ hwd).mono ?_; rintro e w' ⟨rfl, rfl⟩)
  have hres : Res (w.alloc (.cells #[.slice none 0 0, .int .i64 0] 94)) w.heap.size := ⟨by simp, by simp, by simp, by simp⟩
  have hb0 : Below w.heap.size w (w.alloc (.cells #[.slice none 0 0, .int .i64 0] 94)) := (Below.refl _ _).alloc (Nat.le_refl _) _
  have hW0 := HW.out.below hb0
  have hz00 : w.heap.size < (w.alloc (.cells #[.slice none 0 0, .int .i64 0] 94)).heap.size := by simp
  have HS := Lib.hid hres
  have HB0 := Lib.hid hb0
  have HW0 := Lib.hid hW0
  have HZ0 := Lib.hid hz00
  clear hres hb0 hW0 hz00
  generalize w.alloc (.cells #[.slice none 0 0, .int .i64 0] 94) = w0 at HS HB0 HW0 HZ0 ⊢
  go_loopw [1, 7] (fun x i wr => ∃ (j : Nat) (rj : Option Nat), j ≤ 2 ∧ x = .int .i64 (n / 256 ^ j) ∧ i = .int .i64 j ∧ Wrt wr b rj (bs ++ leb n j) ∧ RowOk row rj w0 ∧ Fr b row w0 wr) (fun _ i _ => 2 - (intOf i).toNat)
  case atStart => exact ⟨0, row, by omega, by simp, rfl, by simpa [leb] using HW0.out, .inl rfl, Fr.refl _ _ _⟩
  case round =>
    obtain ⟨j, rj, hj, rfl, rfl, hWj, hrj, hfj⟩ := hrel
    have HWj := Lib.hid hWj
    have Hrj := Lib.hid hrj
    have Hfj := Lib.hid hfj
    clear hrj hfj
    by_cases hlt : j < 2
    · obtain ⟨sv, hsv, hsf, hown, hrow⟩ := hWj
      have hlen : (bs ++ leb n j).length = bs.length + j := by rw [List.length_append, leb_len n j (by omega)]
      rw [hlen] at hown
      have hbl := cell_lt hsv
      have hne : sv.ownBlock ≠ some b := fun h => by have := (hown.lt b h).1; omega
      have hX0 : 0 ≤ n / 256 ^ j := Int.ediv_nonneg hn0 (Int.pow_nonneg (by decide))
      have hX1 : n / 256 ^ j ≤ 9223372036854775807 := Int.le_trans (Int.ediv_le_self _ hn0) (by have := N1.out; omega)
      have HX := Lib.hid (pow_div n j)
      have HL := Lib.hid (leb_succ n j (by omega))
      have HLen := Lib.hid hlen
      have Hrow := Lib.hid hrow
      have hjI : (j : Int) < 2 := by omega
      generalize n / 256 ^ j = X at hX0 hX1 HX HL ⊢
      clear hlen hrow
      go_wp2_with (at_builtin; refine wpList_append_lies _ rfl (.tmp 42) (.tmp 46) 89 rfl (b + 1) 5 i0 _ 1 1 Tryd.underlying89 hi0 hz0 hz1 hz2 rfl (by decide) sv _ _ rfl (hown.alloc _) ⟨wr.heap.size, 0, none⟩ 1 1 [.int .u8 (X % 256)] rfl rfl (World.news_of_block (cs := #[.int .u8 (X % 256)]) (t := 5) (fr := (0, 0)) (heap_alloc_new wr _)) (by simp [Value.oneCell']) (by decide) (by unfold maxLen; omega) (by omega) (by simp; omega) (wr.heap.size + 1) (by simp) ?_; intro g cap w2 hown2 hgrow hat hglt; (have hf2 : w2.frozen? ⟨b, 0, none⟩ = false := by rw [hgrow.frozen_far _ (by simp; omega) (Ne.symm hne)]; exact (World.frozen?_alloc_old wr _ ⟨b, 0, none⟩ (Nat.ne_of_lt hbl)).trans hsf); (have hc2 : w2.cell? ⟨b, 0, none⟩ = some sv := by rw [hgrow.cell_far _ (by simp; omega) (Ne.symm hne)]; exact (World.cell?_alloc_lt wr _ ⟨b, 0, none⟩ hbl).trans hsv))
      go_roundw
      case rel =>
        refine ⟨j + 1, some g, by omega, by rw [HX.out], by go_num, Wrt.stored hc2 hf2 ?_ ?_, ?_, (Hfj.out.alloc _).grown Hrj.out hgrow Hrow.out⟩
        · rw [HL.out, ← List.append_assoc, List.length_append, HLen.out]; simp
        · rw [HL.out, ← List.append_assoc, List.map_append]; exact hown2
        · rcases hat with h | h
          · have := Hrow.out; rw [h] at this; rw [this]; exact Hrj.out
          · exact .inr ⟨g, rfl, by have := Hfj.out.size; omega⟩
      case measure => simp [intOf]; omega
    · obtain rfl : j = 2 := by omega
      have hRb : w.heap.size ≠ b := by omega
      have hRr : some w.heap.size ≠ row := fun e => by have := HR0.out _ e.symm; omega
      obtain ⟨r0, r1, r2, r3⟩ := HS.out.fr Hfj.out hRb hRr HZ0.out
      have hzr := Hfj.out.size
      clear hWj hRb hRr
      have hrj : RowOk row rj w := by
        rcases Hrj.out with h | ⟨g, h, hg⟩
        · exact .inl h
        · exact .inr ⟨g, h, by have := HZ0.out; omega⟩
      have hrR : rj ≠ some w.heap.size := fun e => by
        rcases Hrj.out with h | ⟨g, h, hg⟩
        · have := HR0.out _ (h.symm.trans e); omega
        · rw [h] at e; injection e with e; have := HZ0.out; omega
      have Q1 := Lib.hid hrj
      have Q2 := Lib.hid hrR
      clear hrj hrR
      have P1 := Lib.hid ((HWj.out.setOther (p := ⟨w.heap.size, 0, none⟩) (.slice none 0 0) (Nat.ne_of_gt hbR) Q2.out).setOther (p := ⟨w.heap.size, 1, none⟩) (.int .i64 0) (Nat.ne_of_gt hbR) Q2.out)
      have P2 := Lib.hid ((Fr.after HB0.out Hfj.out).then_ (((Below.refl w.heap.size wr).setCell (p := ⟨w.heap.size, 0, none⟩) (Nat.le_refl _) (.slice none 0 0)).setCell (p := ⟨w.heap.size, 1, none⟩) (Nat.le_refl _) (.int .i64 0)))
      have hcs := res_cells r0 r1 (.slice none 0 0) (.int .i64 0)
      go_wp2
      generalize (wr.setCell ⟨w.heap.size, 0, none⟩ (.slice none 0 0)).setCell ⟨w.heap.size, 1, none⟩ (.int .i64 0) = wf at P1 P2 hcs ⊢
      obtain ⟨c0, c1⟩ := hcs
      exact bodyPost_ret (v := .agg #[.slice none 0 0, .int .i64 0]) (by simp [results, Tryd.results44, go_sem, c0, c1]) rfl ⟨rfl, rj, P1.out, Q1.out, P2.out⟩

set_option maxRecDepth 100000 in
set_option maxHeartbeats 1000000 in
theorem refnum4_ok (b : Nat) (row : Option Nat) (bs : List Int) (n : Int) (w : World) (hn0 : 0 ≤ n) (hn1 : n < 4294967296) (hW : Wrt w b row bs) (hl : bs.length ≤ 90000000) :
    Calls Tryd.prog 44 #[.pointer (some ⟨b, 0, none⟩), .int .i64 n, .int .i64 4] w fun e w' => e = .returned (.agg #[.slice none 0 0, .int .i64 0]) ∧
      ∃ row', Wrt w' b row' (bs ++ leb n 4) ∧ RowOk row row' w ∧ Fr b row w w' := by
  obtain ⟨i0, hi0, hz0, hz1, hz2⟩ := info_parts infoByte
  have hwd : Width 4 := by unfold Width; omega
  have hd : decide (n < 0) = false := by simp only [decide_eq_false_iff_not]; omega
  have hd2 : decide ((4294967296 : Int) ≤ n) = false := by simp only [decide_eq_false_iff_not]; omega
  have HW := Lib.hid hW
  have hbR := hW.lt
  have hrow0 : ∀ g, row = some g → g < w.heap.size := fun g hg => (hW.row_lt hg).2
  have HR0 := Lib.hid hrow0
  have N1 := Lib.hid hn1
  clear hW hrow0 hn1
  go_enter Tryd.func44, Tryd.ntmps44
  go_wp2_with (go_at_call 64; refine (wide_yes _ _ hwd).mono ?_; rintro e w' ⟨rfl, rfl⟩)
  have hres : Res (w.alloc (.cells #[.slice none 0 0, .int .i64 0] 94)) w.heap.size := ⟨by simp, by simp, by simp, by simp⟩
  have hb0 : Below w.heap.size w (w.alloc (.cells #[.slice none 0 0, .int .i64 0] 94)) := (Below.refl _ _).alloc (Nat.le_refl _) _
  have hW0 := HW.out.below hb0
  have hz00 : w.heap.size < (w.alloc (.cells #[.slice none 0 0, .int .i64 0] 94)).heap.size := by simp
  have HS := Lib.hid hres
  have HB0 := Lib.hid hb0
  have HW0 := Lib.hid hW0
  have HZ0 := Lib.hid hz00
  clear hres hb0 hW0 hz00
  generalize w.alloc (.cells #[.slice none 0 0, .int .i64 0] 94) = w0 at HS HB0 HW0 HZ0 ⊢
  go_loopw [1, 7] (fun x i wr => ∃ (j : Nat) (rj : Option Nat), j ≤ 4 ∧ x = .int .i64 (n / 256 ^ j) ∧ i = .int .i64 j ∧ Wrt wr b rj (bs ++ leb n j) ∧ RowOk row rj w0 ∧ Fr b row w0 wr) (fun _ i _ => 4 - (intOf i).toNat)
  case atStart => exact ⟨0, row, by omega, by simp, rfl, by simpa [leb] using HW0.out, .inl rfl, Fr.refl _ _ _⟩
  case round =>
    obtain ⟨j, rj, hj, rfl, rfl, hWj, hrj, hfj⟩ := hrel
    have HWj := Lib.hid hWj
    have Hrj := Lib.hid hrj
    have Hfj := Lib.hid hfj
    clear hrj hfj
    by_cases hlt : j < 4
    · obtain ⟨sv, hsv, hsf, hown, hrow⟩ := hWj
      have hlen : (bs ++ leb n j).length = bs.length + j := by rw [List.length_append, leb_len n j (by omega)]
      rw [hlen] at hown
      have hbl := cell_lt hsv
      have hne : sv.ownBlock ≠ some b := fun h => by have := (hown.lt b h).1; omega
      have hX0 : 0 ≤ n / 256 ^ j := Int.ediv_nonneg hn0 (Int.pow_nonneg (by decide))
      have hX1 : n / 256 ^ j ≤ 9223372036854775807 := Int.le_trans (Int.ediv_le_self _ hn0) (by have := N1.out; omega)
      have HX := Lib.hid (pow_div n j)
      have HL := Lib.hid (leb_succ n j (by omega))
      have HLen := Lib.hid hlen
      have Hrow := Lib.hid hrow
      have hjI : (j : Int) < 4 := by omega
      generalize n / 256 ^ j = X at hX0 hX1 HX HL ⊢
      clear hlen hrow
      go_wp2_with (at_builtin; refine wpList_append_lies _ rfl (.tmp 42) (.tmp 46) 89 rfl (b + 1) 5 i0 _ 1 1 Tryd.underlying89 hi0 hz0 hz1 hz2 rfl (by decide) sv _ _ rfl (hown.alloc _) ⟨wr.heap.size, 0, none⟩ 1 1 [.int .u8 (X % 256)] rfl rfl (World.news_of_block (cs := #[.int .u8 (X % 256)]) (t := 5) (fr := (0, 0)) (heap_alloc_new wr _)) (by simp [Value.oneCell']) (by decide) (by unfold maxLen; omega) (by omega) (by simp; omega) (wr.heap.size + 1) (by simp) ?_; intro g cap w2 hown2 hgrow hat hglt; (have hf2 : w2.frozen? ⟨b, 0, none⟩ = false := by rw [hgrow.frozen_far _ (by simp; omega) (Ne.symm hne)]; exact (World.frozen?_alloc_old wr _ ⟨b, 0, none⟩ (Nat.ne_of_lt hbl)).trans hsf); (have hc2 : w2.cell? ⟨b, 0, none⟩ = some sv := by rw [hgrow.cell_far _ (by simp; omega) (Ne.symm hne)]; exact (World.cell?_alloc_lt wr _ ⟨b, 0, none⟩ hbl).trans hsv))
      go_roundw
      case rel =>
        refine ⟨j + 1, some g, by omega, by rw [HX.out], by go_num, Wrt.stored hc2 hf2 ?_ ?_, ?_, (Hfj.out.alloc _).grown Hrj.out hgrow Hrow.out⟩
        · rw [HL.out, ← List.append_assoc, List.length_append, HLen.out]; simp
        · rw [HL.out, ← List.append_assoc, List.map_append]; exact hown2
        · rcases hat with h | h
          · have := Hrow.out; rw [h] at this; rw [this]; exact Hrj.out
          · exact .inr ⟨g, rfl, by have := Hfj.out.size; omega⟩
      case measure => simp [intOf]; omega
    · obtain rfl : j = 4 := by omega
      have hRb : w.heap.size ≠ b := by omega
      have hRr : some w.heap.size ≠ row := fun e => by have := HR0.out _ e.symm; omega
      obtain ⟨r0, r1, r2, r3⟩ := HS.out.fr Hfj.out hRb hRr HZ0.out
      have hzr := Hfj.out.size
      clear hWj hRb hRr
      have hrj : RowOk row rj w := by
        rcases Hrj.out with h | ⟨g, h, hg⟩
        · exact .inl h
        · exact .inr ⟨g, h, by have := HZ0.out; omega⟩
      have hrR : rj ≠ some w.heap.size := fun e => by
        rcases Hrj.out with h | ⟨g, h, hg⟩
        · have := HR0.out _ (h.symm.trans e); omega
        · rw [h] at e; injection e with e; have := HZ0.out; omega
      have Q1 := Lib.hid hrj
      have Q2 := Lib.hid hrR
      clear hrj hrR
      have P1 := Lib.hid ((HWj.out.setOther (p := ⟨w.heap.size, 0, none⟩) (.slice none 0 0) (Nat.ne_of_gt hbR) Q2.out).setOther (p := ⟨w.heap.size, 1, none⟩) (.int .i64 0) (Nat.ne_of_gt hbR) Q2.out)
      have P2 := Lib.hid ((Fr.after HB0.out Hfj.out).then_ (((Below.refl w.heap.size wr).setCell (p := ⟨w.heap.size, 0, none⟩) (Nat.le_refl _) (.slice none 0 0)).setCell (p := ⟨w.heap.size, 1, none⟩) (Nat.le_refl _) (.int .i64 0)))
      have hcs := res_cells r0 r1 (.slice none 0 0) (.int .i64 0)
      go_wp2
      generalize (wr.setCell ⟨w.heap.size, 0, none⟩ (.slice none 0 0)).setCell ⟨w.heap.size, 1, none⟩ (.int .i64 0) = wf at P1 P2 hcs ⊢
      obtain ⟨c0, c1⟩ := hcs
      exact bodyPost_ret (v := .agg #[.slice none 0 0, .int .i64 0]) (by simp [results, Tryd.results44, go_sem, c0, c1]) rfl ⟨rfl, rj, P1.out, Q1.out, P2.out⟩

set_option maxRecDepth 100000 in
set_option maxHeartbeats 1000000 in
theorem refnum8_ok (b : Nat) (row : Option Nat) (bs : List Int) (n : Int) (w : World) (hn0 : 0 ≤ n) (hn1 : n ≤ 9223372036854775807) (hW : Wrt w b row bs) (hl : bs.length ≤ 90000000) :
    Calls Tryd.prog 44 #[.pointer (some ⟨b, 0, none⟩), .int .i64 n, .int .i64 8] w fun e w' => e = .returned (.agg #[.slice none 0 0, .int .i64 0]) ∧
      ∃ row', Wrt w' b row' (bs ++ leb n 8) ∧ RowOk row row' w ∧ Fr b row w w' := by
  obtain ⟨i0, hi0, hz0, hz1, hz2⟩ := info_parts infoByte
  have hwd : Width 8 := by unfold Width; omega
  have hd : decide (n < 0) = false := by simp only [decide_eq_false_iff_not]; omega
  have HW := Lib.hid hW
  have hbR := hW.lt
  have hrow0 : ∀ g, row = some g → g < w.heap.size := fun g hg => (hW.row_lt hg).2
  have HR0 := Lib.hid hrow0
  have N1 := Lib.hid hn1
  clear hW hrow0 hn1
  go_enter Tryd.func44, Tryd.ntmps44
  go_wp2_with (go_at_call 64; refine (wide_yes _ _ hwd).mono ?_; rintro e w' ⟨rfl, rfl⟩)
  have hres : Res (w.alloc (.cells #[.slice none 0 0, .int .i64 0] 94)) w.heap.size := ⟨by simp, by simp, by simp, by simp⟩
  have hb0 : Below w.heap.size w (w.alloc (.cells #[.slice none 0 0, .int .i64 0] 94)) := (Below.refl _ _).alloc (Nat.le_refl _) _
  have hW0 := HW.out.below hb0
  have hz00 : w.heap.size < (w.alloc (.cells #[.slice none 0 0, .int .i64 0] 94)).heap.size := by simp
  have HS := Lib.hid hres
  have HB0 := Lib.hid hb0
  have HW0 := Lib.hid hW0
  have HZ0 := Lib.hid hz00
  clear hres hb0 hW0 hz00
  generalize w.alloc (.cells #[.slice none 0 0, .int .i64 0] 94) = w0 at HS HB0 HW0 HZ0 ⊢
  go_loopw [1, 7] (fun x i wr => ∃ (j : Nat) (rj : Option Nat), j ≤ 8 ∧ x = .int .i64 (n / 256 ^ j) ∧ i = .int .i64 j ∧ Wrt wr b rj (bs ++ leb n j) ∧ RowOk row rj w0 ∧ Fr b row w0 wr) (fun _ i _ => 8 - (intOf i).toNat)
  case atStart => exact ⟨0, row, by omega, by simp, rfl, by simpa [leb] using HW0.out, .inl rfl, Fr.refl _ _ _⟩
  case round =>
    obtain ⟨j, rj, hj, rfl, rfl, hWj, hrj, hfj⟩ := hrel
    have HWj := Lib.hid hWj
    have Hrj := Lib.hid hrj
    have Hfj := Lib.hid hfj
    clear hrj hfj
    by_cases hlt : j < 8
    · obtain ⟨sv, hsv, hsf, hown, hrow⟩ := hWj
      have hlen : (bs ++ leb n j).length = bs.length + j := by rw [List.length_append, leb_len n j (by omega)]
      rw [hlen] at hown
      have hbl := cell_lt hsv
      have hne : sv.ownBlock ≠ some b := fun h => by have := (hown.lt b h).1; omega
      have hX0 : 0 ≤ n / 256 ^ j := Int.ediv_nonneg hn0 (Int.pow_nonneg (by decide))
      have hX1 : n / 256 ^ j ≤ 9223372036854775807 := Int.le_trans (Int.ediv_le_self _ hn0) (by have := N1.out; omega)
      have HX := Lib.hid (pow_div n j)
      have HL := Lib.hid (leb_succ n j (by omega))
      have HLen := Lib.hid hlen
      have Hrow := Lib.hid hrow
      have hjI : (j : Int) < 8 := by omega
      generalize n / 256 ^ j = X at hX0 hX1 HX HL ⊢
      clear hlen hrow
      go_wp2_with (at_builtin; refine wpList_append_lies _ rfl (.tmp 42) (.tmp 46) 89 rfl (b + 1) 5 i0 _ 1 1 Tryd.underlying89 hi0 hz0 hz1 hz2 rfl (by decide) sv _ _ rfl (hown.alloc _) ⟨wr.heap.size, 0, none⟩ 1 1 [.int .u8 (X % 256)] rfl rfl (World.news_of_block (cs := #[.int .u8 (X % 256)]) (t := 5) (fr := (0, 0)) (heap_alloc_new wr _)) (by simp [Value.oneCell']) (by decide) (by unfold maxLen; omega) (by omega) (by simp; omega) (wr.heap.size + 1) (by simp) ?_; intro g cap w2 hown2 hgrow hat hglt; (have hf2 : w2.frozen? ⟨b, 0, none⟩ = false := by rw [hgrow.frozen_far _ (by simp; omega) (Ne.symm hne)]; exact (World.frozen?_alloc_old wr _ ⟨b, 0, none⟩ (Nat.ne_of_lt hbl)).trans hsf); (have hc2 : w2.cell? ⟨b, 0, none⟩ = some sv := by rw [hgrow.cell_far _ (by simp; omega) (Ne.symm hne)]; exact (World.cell?_alloc_lt wr _ ⟨b, 0, none⟩ hbl).trans hsv))
      go_roundw
      case rel =>
        refine ⟨j + 1, some g, by omega, by rw [HX.out], by go_num, Wrt.stored hc2 hf2 ?_ ?_, ?_, (Hfj.out.alloc _).grown Hrj.out hgrow Hrow.out⟩
        · rw [HL.out, ← List.append_assoc, List.length_append, HLen.out]; simp
        · rw [HL.out, ← List.append_assoc, List.map_append]; exact hown2
        · rcases hat with h | h
          · have := Hrow.out; rw [h] at this; rw [this]; exact Hrj.out
          · exact .inr ⟨g, rfl, by have := Hfj.out.size; omega⟩
      case measure => simp [intOf]; omega
    · obtain rfl : j = 8 := by omega
      have hRb : w.heap.size ≠ b := by omega
      have hRr : some w.heap.size ≠ row := fun e => by have := HR0.out _ e.symm; omega
      obtain ⟨r0, r1, r2, r3⟩ := HS.out.fr Hfj.out hRb hRr HZ0.out
      have hzr := Hfj.out.size
      clear hWj hRb hRr
      have hrj : RowOk row rj w := by
        rcases Hrj.out with h | ⟨g, h, hg⟩
        · exact .inl h
        · exact .inr ⟨g, h, by have := HZ0.out; omega⟩
      have hrR : rj ≠ some w.heap.size := fun e => by
        rcases Hrj.out with h | ⟨g, h, hg⟩
        · have := HR0.out _ (h.symm.trans e); omega
        · rw [h] at e; injection e with e; have := HZ0.out; omega
      have Q1 := Lib.hid hrj
      have Q2 := Lib.hid hrR
      clear hrj hrR
      have P1 := Lib.hid ((HWj.out.setOther (p := ⟨w.heap.size, 0, none⟩) (.slice none 0 0) (Nat.ne_of_gt hbR) Q2.out).setOther (p := ⟨w.heap.size, 1, none⟩) (.int .i64 0) (Nat.ne_of_gt hbR) Q2.out)
      have P2 := Lib.hid ((Fr.after HB0.out Hfj.out).then_ (((Below.refl w.heap.size wr).setCell (p := ⟨w.heap.size, 0, none⟩) (Nat.le_refl _) (.slice none 0 0)).setCell (p := ⟨w.heap.size, 1, none⟩) (Nat.le_refl _) (.int .i64 0)))
      have hcs := res_cells r0 r1 (.slice none 0 0) (.int .i64 0)
      go_wp2
      generalize (wr.setCell ⟨w.heap.size, 0, none⟩ (.slice none 0 0)).setCell ⟨w.heap.size, 1, none⟩ (.int .i64 0) = wf at P1 P2 hcs ⊢
      obtain ⟨c0, c1⟩ := hcs
      exact bodyPost_ret (v := .agg #[.slice none 0 0, .int .i64 0]) (by simp [results, Tryd.results44, go_sem, c0, c1]) rfl ⟨rfl, rj, P1.out, Q1.out, P2.out⟩

theorem refnum_ok (b : Nat) (row : Option Nat) (bs : List Int) (n k : Int) (w : World) (hf : Fits n k) (hW : Wrt w b row bs) (hl : bs.length ≤ 90000000) :
    Calls Tryd.prog 44 #[.pointer (some ⟨b, 0, none⟩), .int .i64 n, .int .i64 k] w fun e w' => e = .returned (.agg #[.slice none 0 0, .int .i64 0]) ∧
      ∃ row', Wrt w' b row' (bs ++ leb n k.toNat) ∧ RowOk row row' w ∧ Fr b row w w' := by
  obtain ⟨h0, ⟨rfl, h⟩ | ⟨rfl, h⟩ | ⟨rfl, h⟩ | ⟨rfl, h⟩⟩ := hf
  · exact refnum1_ok b row bs n w h0 h hW hl
  · exact refnum2_ok b row bs n w h0 h hW hl
  · exact refnum4_ok b row bs n w h0 h hW hl
  · exact refnum8_ok b row bs n w h0 h hW hl

set_option maxRecDepth 100000 in
theorem refnum_bad_of (b : Nat) (row : Option Nat) (bs : List Int) (n k : Int) (w : World) (hW : Wrt w b row bs)
    (ht : ¬ Width k ∨ Width k ∧ (n < 0 ∨ (k = 1 ∧ 256 ≤ n ∨ k = 2 ∧ 65536 ≤ n ∨ k = 4 ∧ 4294967296 ≤ n))) :
    Calls Tryd.prog 44 #[.pointer (some ⟨b, 0, none⟩), .int .i64 n, .int .i64 k] w fun e w' => ∃ A at_, e = .returned (.agg #[.slice A 1 1, .int .i64 at_]) ∧ RF w' A 1 1 [1] ∧ Below w.heap.size w w' := by
  obtain ⟨s, hs, hsf, hown, hrow⟩ := hW
  have hbl := cell_lt hs
  have hs1 : ∀ o, (w.alloc o).cell? ⟨b, 0, none⟩ = some s := fun o => by rw [World.cell?_alloc_lt _ _ ⟨b, 0, none⟩ hbl]; exact hs
  have hsl : ∃ A c, s = .slice A bs.length c := by
    rcases owned_form hown with ⟨rfl, _, h⟩ | ⟨g, cap, rfl, _⟩
    · exact ⟨none, 0, by rw [h]⟩
    · exact ⟨_, _, rfl⟩
  obtain ⟨sA, sc, rfl⟩ := hsl
  clear hown hrow hsf hs
  have hres : Res (w.alloc (.cells #[.slice none 0 0, .int .i64 0] 94)) w.heap.size := ⟨by simp, by simp, by simp, by simp⟩
  have hb0 : Below w.heap.size w (w.alloc (.cells #[.slice none 0 0, .int .i64 0] 94)) := (Below.refl _ _).alloc (Nat.le_refl _) _
  have hz00 : w.heap.size < (w.alloc (.cells #[.slice none 0 0, .int .i64 0] 94)).heap.size := by simp
  have HS := Lib.hid hres
  have HB0 := Lib.hid hb0
  have HZ0 := Lib.hid hz00
  have hsw := hs1 (.cells #[.slice none 0 0, .int .i64 0] 94)
  clear hres hb0 hz00 hs1
  rcases ht with hk | ⟨hk, hn | ⟨rfl, hn⟩ | ⟨rfl, hn⟩ | ⟨rfl, hn⟩⟩
  · go_enter Tryd.func44, Tryd.ntmps44
    go_wp2_with fail
    go_at_call 64
    refine (wide_no _ _ hk).mono ?_
    rintro e w' ⟨rfl, rfl⟩
    go_wp2_with fail
    go_at_call 65
    refine (one_any 1 _ _).mono ?_
    rintro e w1 ⟨A, rfl, hA, hg, hb⟩
    obtain ⟨r0, r1, r2, r3⟩ := HS.out.below hb HZ0.out
    have hgR : ∀ g, A = some ⟨g, 0, none⟩ → w.heap.size ≠ g := fun g h => by have := hg g h; have := HZ0.out; omega
    have P1 := Lib.hid ((hA.setOther (p := ⟨w.heap.size, 0, none⟩) (.slice A 1 1) hgR).setOther (p := ⟨w.heap.size, 1, none⟩) (.int .i64 bs.length) hgR)
    have P2 := Lib.hid (HB0.out.trans (((hb.mono (Nat.le_of_lt HZ0.out)).setCell (p := ⟨w.heap.size, 0, none⟩) (Nat.le_refl _) (.slice A 1 1)).setCell (p := ⟨w.heap.size, 1, none⟩) (Nat.le_refl _) (.int .i64 bs.length)))
    have hcs := res_cells r0 r1 (.slice A 1 1) (.int .i64 bs.length)
    clear hA hg hb hgR
    go_wp2
    generalize (w1.setCell ⟨w.heap.size, 0, none⟩ (.slice A 1 1)).setCell ⟨w.heap.size, 1, none⟩ (.int .i64 bs.length) = wf at P1 P2 hcs ⊢
    obtain ⟨c0, c1⟩ := hcs
    exact bodyPost_ret (v := .agg #[.slice A 1 1, .int .i64 bs.length]) (by simp [results, Tryd.results44, go_sem, c0, c1]) rfl ⟨A, _, rfl, P1.out, P2.out⟩
  · have hd : decide (n < 0) = true := by simp only [decide_eq_true_eq]; omega
    go_enter Tryd.func44, Tryd.ntmps44
    go_wp2_with fail
    go_at_call 64
    refine (wide_yes _ _ hk).mono ?_
    rintro e w' ⟨rfl, rfl⟩
    go_wp2_with fail
    go_at_call 65
    refine (one_any 1 _ _).mono ?_
    rintro e w1 ⟨A, rfl, hA, hg, hb⟩
    obtain ⟨r0, r1, r2, r3⟩ := HS.out.below hb HZ0.out
    have hgR : ∀ g, A = some ⟨g, 0, none⟩ → w.heap.size ≠ g := fun g h => by have := hg g h; have := HZ0.out; omega
    have P1 := Lib.hid ((hA.setOther (p := ⟨w.heap.size, 0, none⟩) (.slice A 1 1) hgR).setOther (p := ⟨w.heap.size, 1, none⟩) (.int .i64 bs.length) hgR)
    have P2 := Lib.hid (HB0.out.trans (((hb.mono (Nat.le_of_lt HZ0.out)).setCell (p := ⟨w.heap.size, 0, none⟩) (Nat.le_refl _) (.slice A 1 1)).setCell (p := ⟨w.heap.size, 1, none⟩) (Nat.le_refl _) (.int .i64 bs.length)))
    have hcs := res_cells r0 r1 (.slice A 1 1) (.int .i64 bs.length)
    clear hA hg hb hgR
    go_wp2
    generalize (w1.setCell ⟨w.heap.size, 0, none⟩ (.slice A 1 1)).setCell ⟨w.heap.size, 1, none⟩ (.int .i64 bs.length) = wf at P1 P2 hcs ⊢
    obtain ⟨c0, c1⟩ := hcs
    exact bodyPost_ret (v := .agg #[.slice A 1 1, .int .i64 bs.length]) (by simp [results, Tryd.results44, go_sem, c0, c1]) rfl ⟨A, _, rfl, P1.out, P2.out⟩
  · have hd : decide (n < 0) = false := by simp only [decide_eq_false_iff_not]; omega
    have hd2 : decide ((256 : Int) ≤ n) = true := by simp only [decide_eq_true_eq]; omega
    go_enter Tryd.func44, Tryd.ntmps44
    go_wp2_with fail
    go_at_call 64
    refine (wide_yes _ _ hk).mono ?_
    rintro e w' ⟨rfl, rfl⟩
    go_wp2_with fail
    go_at_call 65
    refine (one_any 1 _ _).mono ?_
    rintro e w1 ⟨A, rfl, hA, hg, hb⟩
    obtain ⟨r0, r1, r2, r3⟩ := HS.out.below hb HZ0.out
    have hgR : ∀ g, A = some ⟨g, 0, none⟩ → w.heap.size ≠ g := fun g h => by have := hg g h; have := HZ0.out; omega
    have P1 := Lib.hid ((hA.setOther (p := ⟨w.heap.size, 0, none⟩) (.slice A 1 1) hgR).setOther (p := ⟨w.heap.size, 1, none⟩) (.int .i64 bs.length) hgR)
    have P2 := Lib.hid (HB0.out.trans (((hb.mono (Nat.le_of_lt HZ0.out)).setCell (p := ⟨w.heap.size, 0, none⟩) (Nat.le_refl _) (.slice A 1 1)).setCell (p := ⟨w.heap.size, 1, none⟩) (Nat.le_refl _) (.int .i64 bs.length)))
    have hcs := res_cells r0 r1 (.slice A 1 1) (.int .i64 bs.length)
    clear hA hg hb hgR
    go_wp2
    generalize (w1.setCell ⟨w.heap.size, 0, none⟩ (.slice A 1 1)).setCell ⟨w.heap.size, 1, none⟩ (.int .i64 bs.length) = wf at P1 P2 hcs ⊢
    obtain ⟨c0, c1⟩ := hcs
    exact bodyPost_ret (v := .agg #[.slice A 1 1, .int .i64 bs.length]) (by simp [results, Tryd.results44, go_sem, c0, c1]) rfl ⟨A, _, rfl, P1.out, P2.out⟩
  · have hd : decide (n < 0) = false := by simp only [decide_eq_false_iff_not]; omega
    have hd2 : decide ((65536 : Int) ≤ n) = true := by simp only [decide_eq_true_eq]; omega
    go_enter Tryd.func44, Tryd.ntmps44
    go_wp2_with fail
    go_at_call 64
    refine (wide_yes _ _ hk).mono ?_
    rintro e w' ⟨rfl, rfl⟩
    go_wp2_with fail
    go_at_call 65
    refine (one_any 1 _ _).mono ?_
    rintro e w1 ⟨A, rfl, hA, hg, hb⟩
    obtain ⟨r0, r1, r2, r3⟩ := HS.out.below hb HZ0.out
    have hgR : ∀ g, A = some ⟨g, 0, none⟩ → w.heap.size ≠ g := fun g h => by have := hg g h; have := HZ0.out; omega
    have P1 := Lib.hid ((hA.setOther (p := ⟨w.heap.size, 0, none⟩) (.slice A 1 1) hgR).setOther (p := ⟨w.heap.size, 1, none⟩) (.int .i64 bs.length) hgR)
    have P2 := Lib.hid (HB0.out.trans (((hb.mono (Nat.le_of_lt HZ0.out)).setCell (p := ⟨w.heap.size, 0, none⟩) (Nat.le_refl _) (.slice A 1 1)).setCell (p := ⟨w.heap.size, 1, none⟩) (Nat.le_refl _) (.int .i64 bs.length)))
    have hcs := res_cells r0 r1 (.slice A 1 1) (.int .i64 bs.length)
    clear hA hg hb hgR
    go_wp2
    generalize (w1.setCell ⟨w.heap.size, 0, none⟩ (.slice A 1 1)).setCell ⟨w.heap.size, 1, none⟩ (.int .i64 bs.length) = wf at P1 P2 hcs ⊢
    obtain ⟨c0, c1⟩ := hcs
    exact bodyPost_ret (v := .agg #[.slice A 1 1, .int .i64 bs.length]) (by simp [results, Tryd.results44, go_sem, c0, c1]) rfl ⟨A, _, rfl, P1.out, P2.out⟩
  · have hd : decide (n < 0) = false := by simp only [decide_eq_false_iff_not]; omega
    have hd2 : decide ((4294967296 : Int) ≤ n) = true := by simp only [decide_eq_true_eq]; omega
    go_enter Tryd.func44, Tryd.ntmps44
    go_wp2_with fail
    go_at_call 64
    refine (wide_yes _ _ hk).mono ?_
    rintro e w' ⟨rfl, rfl⟩
    go_wp2_with fail
    go_at_call 65
    refine (one_any 1 _ _).mono ?_
    rintro e w1 ⟨A, rfl, hA, hg, hb⟩
    obtain ⟨r0, r1, r2, r3⟩ := HS.out.below hb HZ0.out
    have hgR : ∀ g, A = some ⟨g, 0, none⟩ → w.heap.size ≠ g := fun g h => by have := hg g h; have := HZ0.out; omega
    have P1 := Lib.hid ((hA.setOther (p := ⟨w.heap.size, 0, none⟩) (.slice A 1 1) hgR).setOther (p := ⟨w.heap.size, 1, none⟩) (.int .i64 bs.length) hgR)
    have P2 := Lib.hid (HB0.out.trans (((hb.mono (Nat.le_of_lt HZ0.out)).setCell (p := ⟨w.heap.size, 0, none⟩) (Nat.le_refl _) (.slice A 1 1)).setCell (p := ⟨w.heap.size, 1, none⟩) (Nat.le_refl _) (.int .i64 bs.length)))
    have hcs := res_cells r0 r1 (.slice A 1 1) (.int .i64 bs.length)
    clear hA hg hb hgR
    go_wp2
    generalize (w1.setCell ⟨w.heap.size, 0, none⟩ (.slice A 1 1)).setCell ⟨w.heap.size, 1, none⟩ (.int .i64 bs.length) = wf at P1 P2 hcs ⊢
    obtain ⟨c0, c1⟩ := hcs
    exact bodyPost_ret (v := .agg #[.slice A 1 1, .int .i64 bs.length]) (by simp [results, Tryd.results44, go_sem, c0, c1]) rfl ⟨A, _, rfl, P1.out, P2.out⟩

theorem refnum_bad (b : Nat) (row : Option Nat) (bs : List Int) (n k : Int) (w : World) (hf : ¬ Fits n k) (h1 : n ≤ 9223372036854775807) (hW : Wrt w b row bs) :
    Calls Tryd.prog 44 #[.pointer (some ⟨b, 0, none⟩), .int .i64 n, .int .i64 k] w fun e w' => ∃ A at_, e = .returned (.agg #[.slice A 1 1, .int .i64 at_]) ∧ RF w' A 1 1 [1] ∧ Below w.heap.size w w' := by
  refine refnum_bad_of b row bs n k w hW ?_
  unfold Fits at hf
  by_cases hk : Width k
  · refine .inr ⟨hk, ?_⟩; unfold Width at hk; omega
  · exact .inl hk
end Go.Proofs.YtacbodojbekeeaaDoor

namespace Go.Proofs.YtacbodojbekeeaaDoor
open Go.RowKit Go.Extern.Stop Go.Stop Go.Extern Go.PlainAid Go.Lib

theorem refbytes (b : Nat) (row : Option Nat) (bs : List Int) (w : World) (hW : Wrt w b row bs) :
    Calls Tryd.prog 47 #[.pointer (some ⟨b, 0, none⟩)] w fun e w' => e = .returned (.string (strOfNums bs)) ∧ w = w' := by
  obtain ⟨s, hs, hf, ho, hr⟩ := hW
  rcases owned_form ho with ⟨rfl, h0, _⟩ | ⟨g, cap, rfl, hcell⟩
  · have hcv := run_convert_bytes_nil (P := Tryd.prog) w 89 5 Tryd.underlying89 Tryd.underlying5 0 0 9 Tryd.underlying9
    have hbs : bs = [] := by simpa using h0
    subst hbs
    clear ho hr hf h0
    go_enter Tryd.func47, Tryd.ntmps47
    go_wp2
    go_ret
    exact ⟨rfl, rfl⟩
  · have hcv := run_convert_bytes_arg (P := Tryd.prog) w 89 5 Tryd.underlying89 Tryd.underlying5 g 0 bs.length cap bs rfl (fun i hi => by
      rw [Nat.zero_add]
      exact hcell i _ (by rw [List.getElem?_map, List.getElem?_eq_getElem hi]; simp [List.getElem?_eq_getElem hi])) 9 Tryd.underlying9
    clear ho hr hf hcell
    go_enter Tryd.func47, Tryd.ntmps47
    go_wp2
    go_ret
    exact ⟨rfl, rfl⟩

set_option maxRecDepth 100000 in
set_option maxHeartbeats 1000000 in
theorem reftext_ok (b : Nat) (row : Option Nat) (bs : List Int) (s : ByteArray) (w : World) (hs : s.size ≤ 1024) (hW : Wrt w b row bs) (hl : bs.length ≤ 80000000) :
    Calls Tryd.prog 45 #[.pointer (some ⟨b, 0, none⟩), .string s] w fun e w' => e = .returned (.agg #[.slice none 0 0, .int .i64 0]) ∧
      ∃ row', Wrt w' b row' (bs ++ leb s.size 2 ++ nums s) ∧ RowOk row row' w ∧ Fr b row w w' := by
  obtain ⟨i0, hi0, hz0, hz1, hz2⟩ := info_parts infoByte
  have hsI : (s.size : Int) ≤ 1024 := by omega
  have hbR := hW.lt
  have HR0 := Lib.hid (show ∀ g, row = some g → g < w.heap.size from fun g hg => (hW.row_lt hg).2)
  have hres : Res (w.alloc (.cells #[.slice none 0 0, .int .i64 0] 94)) w.heap.size := ⟨by simp, by simp, by simp, by simp⟩
  have hb0 : Below w.heap.size w (w.alloc (.cells #[.slice none 0 0, .int .i64 0] 94)) := (Below.refl _ _).alloc (Nat.le_refl _) _
  have hz00 : w.heap.size < (w.alloc (.cells #[.slice none 0 0, .int .i64 0] 94)).heap.size := by simp
  have HS := Lib.hid hres
  have HW0 := Lib.hid (hW.below hb0)
  have HB0 := Lib.hid hb0
  have HZ0 := Lib.hid hz00
  clear hW hres hb0 hz00
  go_enter Tryd.func45, Tryd.ntmps45
  go_wp2_with fail
  generalize w.alloc (.cells #[.slice none 0 0, .int .i64 0] 94) = w0 at HS HB0 HW0 HZ0 ⊢
  go_at_call 44
  refine (refnum_ok b row bs s.size 2 w0 (by unfold Fits; omega) HW0.out (by omega)).mono ?_
  rintro e w1 ⟨rfl, row1, ⟨sv, hsv, hsf, hown, hrow⟩, hr1, hf1⟩
  have hl1 : (bs ++ leb (s.size : Int) (Int.toNat 2)).length = bs.length + 2 := by simp [leb]
  have hbl := cell_lt hsv
  have hne : sv.ownBlock ≠ some b := fun h => by have := (hown.lt b h).1; omega
  have HR1 := Lib.hid hr1
  have HF1 := Lib.hid hf1
  have HRow := Lib.hid hrow
  have HL := Lib.hid hl1
  rw [hl1] at hown
  clear hr1 hf1 hrow hl1
  go_wp2_with (at_builtin; refine wpList_append_text _ rfl (.tmp 22) (.tmp 23) 89 9 rfl (b + 1) 5 i0 Tryd.underlying89 Tryd.underlying9 hi0 hz0 hz1 hz2 sv _ _ rfl hown s rfl (by omega) (by unfold maxLen; omega) (by omega) (by omega) ?_; intro g cap w2 hown2 hgrow hat; (have hf2 : w2.frozen? ⟨b, 0, none⟩ = false := by rw [hgrow.frozen_far _ hbl (Ne.symm hne)]; exact hsf); (have hc2 : w2.cell? ⟨b, 0, none⟩ = some sv := by rw [hgrow.cell_far _ hbl (Ne.symm hne)]; exact hsv); (have hfr2 := HF1.out.grown (v := .slice (some ⟨g, 0, none⟩) (bs.length + 2 + s.size) cap) HR1.out hgrow HRow.out); (have hRb : w.heap.size ≠ b := by omega); (have hRr : some w.heap.size ≠ row := fun e => by have := HR0.out _ e.symm; omega); (obtain ⟨r0, r1, r2, r3⟩ := HS.out.fr hfr2 hRb hRr HZ0.out); have HFR := Lib.hid hfr2; have HGR := Lib.hid hgrow; have HO2 := Lib.hid hown2; clear hfr2 hgrow hown2 hown)
  have hgw : RowOk row (some g) w ∧ g ≠ w.heap.size := by
    have hz := HZ0.out
    have hz1 := HF1.out.size
    rcases hat with h | h
    · have hr1 : row1 = some g := HRow.out.symm.trans h
      rcases HR1.out with e | ⟨g', e, hg'⟩
      · have e' : row = some g := e.symm.trans hr1
        exact ⟨.inl e'.symm, by have := HR0.out g e'; omega⟩
      · rw [hr1] at e; injection e with e; subst e
        exact ⟨.inr ⟨g, rfl, by omega⟩, by omega⟩
    · exact ⟨.inr ⟨g, rfl, by omega⟩, by omega⟩
  have hWf : Wrt (w2.setCell ⟨b, 0, none⟩ (.slice (some ⟨g, 0, none⟩) (bs.length + 2 + s.size) cap)) b (some g) (bs ++ leb (s.size : Int) 2 ++ nums s) := by
    refine Wrt.stored hc2 hf2 ?_ ?_
    · have h2 : (bs ++ leb (s.size : Int) 2).length = bs.length + 2 := HL.out
      rw [List.length_append, nums_length, h2]
    · rw [List.map_append, ← strCells_nums]; exact HO2.out
  have hFr : Fr b row w (w2.setCell ⟨b, 0, none⟩ (.slice (some ⟨g, 0, none⟩) (bs.length + 2 + s.size) cap)) := Fr.after HB0.out HFR.out
  generalize w2.setCell ⟨b, 0, none⟩ (.slice (some ⟨g, 0, none⟩) (bs.length + 2 + s.size) cap) = w3 at r0 r1 r2 r3 hWf hFr ⊢
  obtain ⟨c0, c1⟩ := res_cells r0 r1 (.slice none 0 0) (.int .i64 0)
  refine bodyPost_ret (v := .agg #[.slice none 0 0, .int .i64 0]) (by simp [results, Tryd.results45, go_sem, c0, c1]) rfl ⟨rfl, some g, ?_, hgw.1, hFr.then_ (((Below.refl w.heap.size w3).setCell (p := ⟨w.heap.size, 0, none⟩) (Nat.le_refl _) _).setCell (p := ⟨w.heap.size, 1, none⟩) (Nat.le_refl _) _)⟩
  have hq : some g ≠ some w.heap.size := fun e => by injection e with e; exact hgw.2 e
  exact (hWf.setOther (p := ⟨w.heap.size, 0, none⟩) _ hRb hq).setOther (p := ⟨w.heap.size, 1, none⟩) _ hRb hq

set_option maxRecDepth 100000 in
theorem reftext_bad (b : Nat) (row : Option Nat) (bs : List Int) (s : ByteArray) (w : World) (hs : 1024 < s.size) (hW : Wrt w b row bs) :
    Calls Tryd.prog 45 #[.pointer (some ⟨b, 0, none⟩), .string s] w fun e w' => ∃ A at_, e = .returned (.agg #[.slice A 1 1, .int .i64 at_]) ∧ RF w' A 1 1 [11] ∧ Below w.heap.size w w' := by
  have hsI : (1024 : Int) < (s.size : Int) := by omega
  obtain ⟨sv, hsv, hsf, hown, hrow⟩ := hW
  have hbl := cell_lt hsv
  have hsl : ∃ A c, sv = .slice A bs.length c := by
    rcases owned_form hown with ⟨rfl, _, h⟩ | ⟨g, cap, rfl, _⟩
    · exact ⟨none, 0, by rw [h]⟩
    · exact ⟨_, _, rfl⟩
  obtain ⟨sA, sc, rfl⟩ := hsl
  have hres : Res (w.alloc (.cells #[.slice none 0 0, .int .i64 0] 94)) w.heap.size := ⟨by simp, by simp, by simp, by simp⟩
  have hb0 : Below w.heap.size w (w.alloc (.cells #[.slice none 0 0, .int .i64 0] 94)) := (Below.refl _ _).alloc (Nat.le_refl _) _
  have hz00 : w.heap.size < (w.alloc (.cells #[.slice none 0 0, .int .i64 0] 94)).heap.size := by simp
  have hsw : (w.alloc (.cells #[.slice none 0 0, .int .i64 0] 94)).cell? ⟨b, 0, none⟩ = some (.slice sA bs.length sc) := by rw [World.cell?_alloc_lt _ _ ⟨b, 0, none⟩ hbl]; exact hsv
  have HS := Lib.hid hres
  have HB0 := Lib.hid hb0
  have HZ0 := Lib.hid hz00
  clear hres hb0 hz00 hown hrow hsf hsv
  go_enter Tryd.func45, Tryd.ntmps45
  go_wp2_with fail
  go_at_call 65
  refine (one_any 11 _ _).mono ?_
  rintro e w1 ⟨A, rfl, hA, hg, hb⟩
  obtain ⟨r0, r1, r2, r3⟩ := HS.out.below hb HZ0.out
  have hgR : ∀ g, A = some ⟨g, 0, none⟩ → w.heap.size ≠ g := fun g h => by have := hg g h; have := HZ0.out; omega
  have P1 := Lib.hid ((hA.setOther (p := ⟨w.heap.size, 0, none⟩) (.slice A 1 1) hgR).setOther (p := ⟨w.heap.size, 1, none⟩) (.int .i64 bs.length) hgR)
  have P2 := Lib.hid (HB0.out.trans (((hb.mono (Nat.le_of_lt HZ0.out)).setCell (p := ⟨w.heap.size, 0, none⟩) (Nat.le_refl _) (.slice A 1 1)).setCell (p := ⟨w.heap.size, 1, none⟩) (Nat.le_refl _) (.int .i64 bs.length)))
  have hcs := res_cells r0 r1 (.slice A 1 1) (.int .i64 bs.length)
  clear hA hg hb hgR
  go_wp2
  generalize (w1.setCell ⟨w.heap.size, 0, none⟩ (.slice A 1 1)).setCell ⟨w.heap.size, 1, none⟩ (.int .i64 bs.length) = wf at P1 P2 hcs ⊢
  obtain ⟨c0, c1⟩ := hcs
  exact bodyPost_ret (v := .agg #[.slice A 1 1, .int .i64 bs.length]) (by simp [results, Tryd.results45, go_sem, c0, c1]) rfl ⟨A, _, rfl, P1.out, P2.out⟩
end Go.Proofs.YtacbodojbekeeaaDoor

namespace Go.Proofs.YtacbodojbekeeaaDoor
open Go.RowKit Go.Extern.Stop Go.Stop Go.Extern Go.PlainAid Go.Lib

theorem bt_extract (s : ByteArray) (a i : Nat) (h : a + i < s.size) : bt (s.extract a s.size) i = bt s (a + i) := by
  have h1 : i < (s.extract a s.size).size := by simp; omega
  unfold bt
  rw [dif_pos h1, dif_pos h]
  simp [ByteArray.getElem_extract]

/-- The number that bytes i to k - 1 make. -/
def hv (s : ByteArray) (a k : Nat) : Nat → Nat → Int
  | 0, _ => 0
  | f + 1, i => if i < k then bt s (a + i) + 256 * hv s a k f (i + 1) else 0
theorem hv_fuel (s : ByteArray) (a k : Nat) : ∀ f i, k ≤ i → hv s a k f i = 0
  | 0, _, _ => rfl
  | f + 1, i, h => by simp only [hv]; rw [if_neg (by omega)]
theorem hv_enough (s : ByteArray) (a k : Nat) : ∀ f g i, k ≤ f + i → k ≤ g + i → hv s a k f i = hv s a k g i
  | 0, g, i, h, _ => by rw [hv_fuel s a k 0 i (by omega), hv_fuel s a k g i (by omega)]
  | f + 1, 0, i, _, h => by rw [hv_fuel s a k 0 i (by omega), hv_fuel s a k (f + 1) i (by omega)]
  | f + 1, g + 1, i, h, h' => by
    simp only [hv]
    split
    · rw [hv_enough s a k f g (i + 1) (by omega) (by omega)]
    · rfl
/-- From i on. -/
def hvf (s : ByteArray) (a k i : Nat) : Int := hv s a k k i
theorem hvf_end (s : ByteArray) (a k : Nat) : hvf s a k k = 0 := hv_fuel s a k k k (Nat.le_refl _)
theorem hvf_step (s : ByteArray) (a k i : Nat) (h : i < k) : hvf s a k i = hvf s a k (i + 1) * 256 + bt s (a + i) := by
  unfold hvf
  obtain ⟨f, rfl⟩ : ∃ f, k = f + 1 := ⟨k - 1, by omega⟩
  rw [show hv s a (f + 1) (f + 1) i = bt s (a + i) + 256 * hv s a (f + 1) f (i + 1) from by simp only [hv]; rw [if_pos h], hv_enough s a (f + 1) f (f + 1) (i + 1) (by omega) (by omega)]
  omega
theorem hvf_nonneg (s : ByteArray) (a k : Nat) : ∀ d i, k = i + d → 0 ≤ hvf s a k i
  | 0, i, h => by have : i = k := by omega
                  subst this; rw [hvf_end]; decide
  | d + 1, i, h => by
    rw [hvf_step s a k i (by omega)]
    have := hvf_nonneg s a k d (i + 1) (by omega)
    have := bt_nonneg s (a + i)
    omega
theorem lev_hvf (s : ByteArray) (a k : Nat) (hk : a + k ≤ s.size) : ∀ m, m ≤ k → lev (s.extract a s.size) m + 256 ^ m * hvf s a k m = hvf s a k 0
  | 0, _ => by simp [lev]
  | m + 1, h => by
    have ih := lev_hvf s a k hk m (by omega)
    rw [hvf_step s a k m (by omega)] at ih
    simp only [lev]
    rw [bt_extract s a m (by omega)]
    have e : (256 : Int) ^ (m + 1) = 256 ^ m * 256 := Int.pow_succ _ _
    rw [e, ← ih, Int.mul_add, Int.mul_comm (bt s (a + m)), Int.mul_assoc, Int.mul_comm (hvf s a k (m + 1)) 256]
    omega
theorem hvf_lev (s : ByteArray) (a k : Nat) (hk : a + k ≤ s.size) : hvf s a k 0 = lev (s.extract a s.size) k := by
  have := lev_hvf s a k hk k (Nat.le_refl _)
  rw [hvf_end] at this
  omega
theorem hvf_mono (s : ByteArray) (a k : Nat) : ∀ i, i ≤ k → hvf s a k i ≤ hvf s a k 0
  | 0, _ => Int.le_refl _
  | i + 1, h => by
    have ih := hvf_mono s a k i (by omega)
    have st := hvf_step s a k i (by omega)
    have := hvf_nonneg s a k (k - (i + 1)) (i + 1) (by omega)
    have := bt_nonneg s (a + i)
    omega
end Go.Proofs.YtacbodojbekeeaaDoor
