/-
  The document's own writer and reader (weirkeepref01), by contracts: out of layer 1's texts.
-/
import Derived.Test.YtacdbfaoeioflaaGreatDoorLive
namespace Go.Proofs.YtacdbfaoeioflaaGreatDoor
open Go.RowKit Go.Extern.Stop Go.Stop Go.Extern Go.PlainAid Go.Lib

theorem cell_lt {w : World} {b o : Nat} {v : Value} (h : w.cell? ⟨b, o, none⟩ = some v) : b < w.heap.size := by
  rcases Nat.lt_or_ge b w.heap.size with h1 | h1
  · exact h1
  · simp [World.cell?, Array.getElem?_eq_none h1] at h
theorem ownsRow_below {w w' : World} (hb : Below w.heap.size w w') {base : Nat} {e : TypeId} {size : Nat} {v : Value} {n : Nat} {xs : List Value} (h : w.ownsRow base e size v n xs) : w'.ownsRow base e size v n xs := by
  obtain ⟨h1, h2⟩ := h
  refine ⟨h1, ?_⟩
  rcases h2 with h2 | ⟨g, cap, cur, hv, hg, hh, r⟩
  · exact Or.inl h2
  · refine Or.inr ⟨g, cap, cur, hv, hg, ?_, r⟩
    have hlt : g < w.heap.size := by
      rcases Nat.lt_or_ge g w.heap.size with h1 | h1
      · exact h1
      · simp [Array.getElem?_eq_none h1] at hh
    rw [hb.block g hlt]; exact hh
theorem below_drewN {B : Nat} {a w : World} (h : Below B a w) (n : Nat) : Below B a (w.drewN n) := ⟨h.os, h.tape, h.output, h.size, h.block⟩
def Width (k : Int) : Prop := k = 1 ∨ k = 2 ∨ k = 4 ∨ k = 8
theorem infoByte : (Tryz.prog.info? 5).map (fun i => (i.zero, i.size, i.bytes)) = some (some (.int .u8 0), 1, 1) := by kernel_rfl
/-- A writer in block b: its bytes bs, in a row of its own behind it (row: that row's block). -/
def Wrt (w : World) (b : Nat) (row : Option Nat) (bs : List Int) : Prop :=
  ∃ s, w.cell? ⟨b, 0, none⟩ = some s ∧ w.frozen? ⟨b, 0, none⟩ = false ∧ w.ownsRow (b + 1) 5 1 s bs.length (bs.map (Value.int .u8)) ∧ s.ownBlock = row
/-- From w to w' only block b, the block 'row' and new ones have turned. -/
structure Fr (b : Nat) (row : Option Nat) (w w' : World) : Prop where
  os : w'.os = w.os
  tape : w'.tape = w.tape
  output : w'.output = w.output
  size : w.heap.size ≤ w'.heap.size
  block : ∀ k, k < w.heap.size → k ≠ b → some k ≠ row → w'.heap[k]? = w.heap[k]?
theorem nums_oneCell (l : List Int) (κ : IntKind) : ∀ u ∈ l.map (Value.int κ), u.oneCell' = true := fun u hu => by
  obtain ⟨x, _, rfl⟩ := List.mem_map.1 hu; rfl
/-- The row is the old one, or a new block. -/
def RowOk (row row' : Option Nat) (w : World) : Prop := row' = row ∨ ∃ g, row' = some g ∧ w.heap.size ≤ g
theorem Wrt.stored {w2 : World} {b g n cap : Nat} {s : Value} {cs : List Int} (hc : w2.cell? ⟨b, 0, none⟩ = some s) (hf : w2.frozen? ⟨b, 0, none⟩ = false) (hn : n = cs.length)
    (hown : w2.ownsRow (b + 1) 5 1 (.slice (some ⟨g, 0, none⟩) n cap) n (cs.map (Value.int .u8))) :
    Wrt (w2.setCell ⟨b, 0, none⟩ (.slice (some ⟨g, 0, none⟩) n cap)) b (some g) cs := by
  subst hn
  exact ⟨_, World.cell?_setCell_same _ _ _ hc, by rw [World.frozen?_setCell]; exact hf, ownsRow_setCell_below hown (Nat.lt_succ_self b) _, rfl⟩
theorem Wrt.below {w w' : World} (hb : Below w.heap.size w w') {b : Nat} {row : Option Nat} {bs : List Int} (h : Wrt w b row bs) : Wrt w' b row bs := by
  obtain ⟨s, hs, hf, ho, hr⟩ := h
  have hl := cell_lt hs
  exact ⟨s, by rw [hb.cell (p := ⟨b, 0, none⟩) hl]; exact hs, by rw [hb.frozen (p := ⟨b, 0, none⟩) hl]; exact hf, ownsRow_below hb ho, hr⟩
theorem Wrt.lt {w : World} {b : Nat} {row : Option Nat} {bs : List Int} (h : Wrt w b row bs) : b < w.heap.size := by
  obtain ⟨s, hs, _⟩ := h; exact cell_lt hs
theorem Wrt.row_lt {w : World} {b g : Nat} {row : Option Nat} {bs : List Int} (h : Wrt w b row bs) (hg : row = some g) : b < g ∧ g < w.heap.size := by
  obtain ⟨s, hs, hf, ho, hr⟩ := h
  have := ho.lt g (hr.trans hg); omega
/-- Below block b nothing has turned, if the row lies behind b. -/
theorem Fr.below {w w' : World} {b : Nat} {row : Option Nat} (h : Fr b row w w') (hb : b ≤ w.heap.size) (hr : ∀ g, row = some g → b < g) : Below b w w' :=
  ⟨h.os, h.tape, h.output, h.size, fun k hk => h.block k (by omega) (by omega) (fun e => by have := hr k e.symm; omega)⟩
theorem Fr.grown {b : Nat} {row row1 srow : Option Nat} {w w1 w2 : World} {v : Value} (hf : Fr b row w w1) (hr : RowOk row row1 w) (hg : w1.grownBy w2 srow) (hs : srow = row1) : Fr b row w (w2.setCell ⟨b, 0, none⟩ v) := by
  subst hs
  have hz := hf.size
  have hz2 := hg.size
  refine ⟨hg.os.trans hf.os, hg.tape.trans hf.tape, hg.output.trans hf.output, by simp [World.setCell]; omega, fun k hk hkb hkr => ?_⟩
  rw [Below.heap_setCell _ _ _ _ (by simpa using hkb), hg.block k (by omega) ?_]
  · exact hf.block k hk hkb hkr
  · rcases hr with h | ⟨g, h, hge⟩
    · rw [h]; exact hkr
    · rw [h]; intro e; injection e with e; omega
/-- A writer is as it was, where only other blocks have turned. -/
theorem Wrt.fr {w w' : World} {b c : Nat} {row rc : Option Nat} {bs : List Int} (h : Wrt w b row bs) (hf : Fr c rc w w') (h1 : b ≠ c) (h2 : some b ≠ rc) (h3 : ∀ g, row = some g → g ≠ c ∧ some g ≠ rc) : Wrt w' b row bs := by
  have hl := h.lt
  have hrl := fun g hg => h.row_lt (g := g) hg
  obtain ⟨s, hs, hfz, ho, hr⟩ := h
  have hblk := hf.block b hl h1 h2
  refine ⟨s, ?_, ?_, ?_, hr⟩
  · rw [World.cell?_of_block (w := w) (a := ⟨b, 0, none⟩) hblk]; exact hs
  · rw [World.frozen?_of_block (w := w) (a := ⟨b, 0, none⟩) hblk]; exact hfz
  · obtain ⟨o1, o2⟩ := ho
    refine ⟨o1, ?_⟩
    rcases o2 with o2 | ⟨g, cap, cur, hv, hg, hh, rest⟩
    · exact .inl o2
    · refine .inr ⟨g, cap, cur, hv, hg, ?_, rest⟩
      have hrow : row = some g := by rw [← hr, hv]; rfl
      obtain ⟨k1, k2⟩ := h3 g hrow
      rw [hf.block g (hrl g hrow).2 k1 k2]; exact hh
theorem wide_yes (k : Int) (w : World) (h : Width k) :
    Calls Tryz.prog 84 #[.int .i64 k] w fun e w' => e = .returned (.bool true) ∧ w = w' := by
  rcases h with rfl | rfl | rfl | rfl
  all_goals
    go_enter Tryz.func84, Tryz.ntmps84
    go_wp2
    go_ret
    exact ⟨rfl, rfl⟩
/-- A fault of the document's: its errors es, in memory. -/
def RF (w : World) (A : Option Addr) (n c : Nat) (es : List Int) : Prop :=
  es.length = n ∧ n ≤ c ∧ (es = [] ∧ A = none ∧ c = 0 ∨ ∃ g, A = some ⟨g, 0, none⟩ ∧ ∀ j x, es[j]? = some x → w.cell? ⟨g, j, none⟩ = some (.int .i64 x))
theorem RF.below {w w' : World} {A : Option Addr} {n c : Nat} {es : List Int} (h : RF w A n c es) (hb : Below w.heap.size w w') : RF w' A n c es := by
  obtain ⟨h1, h2, h3⟩ := h
  refine ⟨h1, h2, ?_⟩
  rcases h3 with h3 | ⟨g, hA, hc⟩
  · exact .inl h3
  · exact .inr ⟨g, hA, fun j x hx => by rw [hb.cell (p := ⟨g, j, none⟩) (cell_lt (hc j x hx))]; exact hc j x hx⟩
theorem one_any (E at_ : Int) (w : World) :
    Calls Tryz.prog 85 #[.int .i64 E, .int .i64 at_] w fun e w' => ∃ A, e = .returned (.agg #[.slice A 1 1, .int .i64 at_]) ∧ RF w' A 1 1 [E] ∧ (∀ g, A = some ⟨g, 0, none⟩ → w.heap.size ≤ g) ∧ Below w.heap.size w w' := by
  go_enter Tryz.func85, Tryz.ntmps85
  go_wp2
  go_returns
  refine ⟨_, rfl, ⟨rfl, Nat.le_refl _, .inr ⟨_, rfl, fun j x hx => ?_⟩⟩, fun g hg => ?_, by go_grown⟩
  · match j, hx with
    | 0, hx => simp at hx; subst hx; simp
  · injection hg with hg; injection hg with hg; omega
theorem RF.setOther {w : World} {A : Option Addr} {n c : Nat} {es : List Int} (h : RF w A n c es) {p : Addr} (u : Value) (hp : ∀ g, A = some ⟨g, 0, none⟩ → p.block ≠ g) : RF (w.setCell p u) A n c es := by
  obtain ⟨h1, h2, h3⟩ := h
  refine ⟨h1, h2, ?_⟩
  rcases h3 with h3 | ⟨g, hA, hc⟩
  · exact .inl h3
  · refine .inr ⟨g, hA, fun j x hx => ?_⟩
    rw [World.cell?_setCell_other _ _ _ _ (fun e => hp g hA (by rw [e]))]
    exact hc j x hx
theorem Fr.refl (b : Nat) (row : Option Nat) (w : World) : Fr b row w w := ⟨rfl, rfl, rfl, Nat.le_refl _, fun _ _ _ _ => rfl⟩
theorem Fr.alloc {b : Nat} {row : Option Nat} {w w1 : World} (h : Fr b row w w1) (o : Obj) : Fr b row w (w1.alloc o) :=
  ⟨h.os, h.tape, h.output, by have := h.size; simp; omega, fun k hk h1 h2 => by rw [Below.heap_alloc w1 o k (by have := h.size; omega)]; exact h.block k hk h1 h2⟩
/-- Below ahead, then such a step, then a store into a new block. -/
theorem Fr.after {b : Nat} {row : Option Nat} {w w0 w1 : World} (hb : Below w.heap.size w w0) (h : Fr b row w0 w1) : Fr b row w w1 :=
  ⟨h.os.trans hb.os, h.tape.trans hb.tape, h.output.trans hb.output, Nat.le_trans hb.size h.size, fun k hk h1 h2 => (h.block k (Nat.lt_of_lt_of_le hk hb.size) h1 h2).trans (hb.block k hk)⟩
theorem Fr.then_ {b : Nat} {row : Option Nat} {w w1 w2 : World} (h : Fr b row w w1) (hb : Below w.heap.size w1 w2) : Fr b row w w2 :=
  ⟨hb.os.trans h.os, hb.tape.trans h.tape, hb.output.trans h.output, Nat.le_trans h.size hb.size, fun k hk h1 h2 => (hb.block k hk).trans (h.block k hk h1 h2)⟩
theorem RowOk.trans {r1 r2 r3 : Option Nat} {w w' : World} (h : RowOk r1 r2 w) (h' : RowOk r2 r3 w') (hz : w.heap.size ≤ w'.heap.size) : RowOk r1 r3 w := by
  rcases h' with rfl | ⟨g, rfl, hg⟩
  · exact h
  · exact .inr ⟨g, rfl, by omega⟩
theorem leb_succ (n : Int) (j : Nat) (hj : j < 8) : leb n (j + 1) = leb n j ++ [n / 256 ^ j % 256] := by
  obtain rfl | rfl | rfl | rfl | rfl | rfl | rfl | rfl : j = 0 ∨ j = 1 ∨ j = 2 ∨ j = 3 ∨ j = 4 ∨ j = 5 ∨ j = 6 ∨ j = 7 := by omega
  all_goals simp [leb]
theorem pow_div (n : Int) (j : Nat) : n / 256 ^ j / 256 = n / 256 ^ (j + 1) := by
  rw [Int.ediv_ediv_of_nonneg (Int.pow_nonneg (by decide)), Int.pow_succ]
/-- The result's cells, in a block that only this call has. -/
def Res (w : World) (R : Nat) : Prop := w.cell? ⟨R, 0, none⟩ = some (.slice none 0 0) ∧ w.cell? ⟨R, 1, none⟩ = some (.int .i64 0) ∧ w.frozen? ⟨R, 0, none⟩ = false ∧ w.frozen? ⟨R, 1, none⟩ = false
theorem Res.fr {w w' : World} {R b : Nat} {row : Option Nat} (h : Res w R) (hf : Fr b row w w') (h1 : R ≠ b) (h2 : some R ≠ row) (hl : R < w.heap.size) : Res w' R := by
  have hb := hf.block R hl h1 h2
  obtain ⟨a, c, d, e⟩ := h
  exact ⟨by rw [World.cell?_of_block (w := w) (a := ⟨R, 0, none⟩) hb]; exact a, by rw [World.cell?_of_block (w := w) (a := ⟨R, 1, none⟩) hb]; exact c, by rw [World.frozen?_of_block (w := w) (a := ⟨R, 0, none⟩) hb]; exact d, by rw [World.frozen?_of_block (w := w) (a := ⟨R, 1, none⟩) hb]; exact e⟩
theorem res_cells {w : World} {R : Nat} {x0 x1 : Value} (h0 : w.cell? ⟨R, 0, none⟩ = some x0) (h1 : w.cell? ⟨R, 1, none⟩ = some x1) (v0 v1 : Value) :
    ((w.setCell ⟨R, 0, none⟩ v0).setCell ⟨R, 1, none⟩ v1).cell? ⟨R, 0, none⟩ = some v0 ∧ ((w.setCell ⟨R, 0, none⟩ v0).setCell ⟨R, 1, none⟩ v1).cell? ⟨R, 1, none⟩ = some v1 := by
  have e1 : (w.setCell ⟨R, 0, none⟩ v0).cell? ⟨R, 1, none⟩ = some x1 := by rw [World.cell?_setCell_other _ _ _ _ (by simp)]; exact h1
  refine ⟨?_, World.cell?_setCell_same _ _ _ e1⟩
  rw [World.cell?_setCell_other _ _ _ _ (by simp)]; exact World.cell?_setCell_same _ _ _ h0
theorem Res.below {w w' : World} {R : Nat} (h : Res w R) (hb : Below w.heap.size w w') (hl : R < w.heap.size) : Res w' R :=
  h.fr (b := w.heap.size) (row := none) ⟨hb.os, hb.tape, hb.output, hb.size, fun k hk _ _ => hb.block k hk⟩ (by omega) (by simp) hl
theorem Wrt.setOther {w : World} {b : Nat} {row : Option Nat} {bs : List Int} (h : Wrt w b row bs) {p : Addr} (u : Value) (h1 : p.block ≠ b) (h2 : row ≠ some p.block) : Wrt (w.setCell p u) b row bs := by
  have hf : Fr p.block none w (w.setCell p u) := ⟨rfl, rfl, rfl, by simp [World.setCell], fun k _ hk _ => Below.heap_setCell _ _ _ _ hk⟩
  exact h.fr hf (Ne.symm h1) (by simp) (fun g hg => ⟨fun e => h2 (by rw [hg, e]), by simp⟩)
set_option maxRecDepth 100000 in
set_option maxHeartbeats 1000000 in
theorem refnum1_ok (b : Nat) (row : Option Nat) (bs : List Int) (n : Int) (w : World) (hn0 : 0 ≤ n) (hn1 : n < 256) (hW : Wrt w b row bs) (hl : bs.length ≤ 90000000) :
    Calls Tryz.prog 66 #[.pointer (some ⟨b, 0, none⟩), .int .i64 n, .int .i64 1] w fun e w' => e = .returned (.agg #[.slice none 0 0, .int .i64 0]) ∧
      ∃ row', Wrt w' b row' (bs ++ leb n 1) ∧ RowOk row row' w ∧ Fr b row w w' := by
  obtain ⟨i0, hi0, hz0, hz1, hz2⟩ := info_parts infoByte
  have hwd : Width 1 := by unfold Width; omega
  have hd : decide (n < 0) = false := by simp only [decide_eq_false_iff_not]; omega
  have hd2 : decide ((256 : Int) ≤ n) = false := by simp only [decide_eq_false_iff_not]; omega
  have HW := Lib.hid hW
  have hbR := hW.lt
  have hrow0 : ∀ g, row = some g → g < w.heap.size := fun g hg => (hW.row_lt hg).2
  have HR0 := Lib.hid hrow0
  have N1 := Lib.hid hn1
  clear hW hrow0 hn1
  go_enter Tryz.func66, Tryz.ntmps66
  go_wp2_with (go_at_call 84; refine (wide_yes _ _ hwd).mono ?_; rintro e w' ⟨rfl, rfl⟩)
  have hres : Res (w.alloc (.cells #[.slice none 0 0, .int .i64 0] 115)) w.heap.size := ⟨by simp, by simp, by simp, by simp⟩
  have hb0 : Below w.heap.size w (w.alloc (.cells #[.slice none 0 0, .int .i64 0] 115)) := (Below.refl _ _).alloc (Nat.le_refl _) _
  have hW0 := HW.out.below hb0
  have hz00 : w.heap.size < (w.alloc (.cells #[.slice none 0 0, .int .i64 0] 115)).heap.size := by simp
  have HS := Lib.hid hres
  have HB0 := Lib.hid hb0
  have HW0 := Lib.hid hW0
  have HZ0 := Lib.hid hz00
  clear hres hb0 hW0 hz00
  generalize w.alloc (.cells #[.slice none 0 0, .int .i64 0] 115) = w0 at HS HB0 HW0 HZ0 ⊢
  go_loopw [1, 7] (fun x i wr => ∃ (j : Nat) (rj : Option Nat), j ≤ 1 ∧ x = .int .i64 (n / 256 ^ j) ∧ i = .int .i64 j ∧ Wrt wr b rj (bs ++ leb n j) ∧ RowOk row rj w0 ∧ Fr b row w0 wr) (fun _ i _ => 1 - (intOf i).toNat)
  case atStart => exact ⟨0, row, by omega, by simp, rfl, by simpa [leb] using HW0.out, .inl rfl, Fr.refl _ _ _⟩
  case round =>
    obtain ⟨j, rj, hj, rfl, rfl, hWj, hrj, hfj⟩ := hrel
    have HWj := Lib.hid hWj
    have Hrj := Lib.hid hrj
    have Hfj := Lib.hid hfj
    clear hrj hfj
    by_cases hlt : j < 1
    · obtain ⟨sv, hsv, hsf, hown, hrow⟩ := hWj
      have hlen : (bs ++ leb n j).length = bs.length + j := by rw [List.length_append, leb_len n j (by omega)]
      rw [hlen] at hown
      have hbl := cell_lt hsv
      have hne : sv.ownBlock ≠ some b := fun h => by have := (hown.lt b h).1; omega
      have hX0 : 0 ≤ n / 256 ^ j := Int.ediv_nonneg hn0 (Int.pow_nonneg (by decide))
      have hX1 : n / 256 ^ j ≤ 9223372036854775807 := Int.le_trans (Int.ediv_le_self _ hn0) (by have := N1.out; omega)
      have HX := Lib.hid (pow_div n j)
      have HL := Lib.hid (leb_succ n j (by omega))
      have HLen := Lib.hid hlen
      have Hrow := Lib.hid hrow
      have hjI : (j : Int) < 1 := by omega
      generalize n / 256 ^ j = X at hX0 hX1 HX HL ⊢
      clear hlen hrow
      go_wp2_with (at_builtin; refine wpList_append_lies _ rfl (.tmp 42) (.tmp 46) 98 rfl (b + 1) 5 i0 _ 1 1 Tryz.underlying98 hi0 hz0 hz1 hz2 rfl (by decide) sv _ _ rfl (hown.alloc _) ⟨wr.heap.size, 0, none⟩ 1 1 [.int .u8 (X % 256)] rfl rfl (World.news_of_block (cs := #[.int .u8 (X % 256)]) (t := 5) (fr := (0, 0)) (heap_alloc_new wr _)) (by simp [Value.oneCell']) (by decide) (by unfold maxLen; omega) (by omega) (by simp; omega) (wr.heap.size + 1) (by simp) ?_; intro g cap w2 hown2 hgrow hat hglt; (have hf2 : w2.frozen? ⟨b, 0, none⟩ = false := by rw [hgrow.frozen_far _ (by simp; omega) (Ne.symm hne)]; exact (World.frozen?_alloc_old wr _ ⟨b, 0, none⟩ (Nat.ne_of_lt hbl)).trans hsf); (have hc2 : w2.cell? ⟨b, 0, none⟩ = some sv := by rw [hgrow.cell_far _ (by simp; omega) (Ne.symm hne)]; exact (World.cell?_alloc_lt wr _ ⟨b, 0, none⟩ hbl).trans hsv))
      go_roundw
      case rel =>
        refine ⟨j + 1, some g, by omega, by rw [HX.out], by go_num, Wrt.stored hc2 hf2 ?_ ?_, ?_, (Hfj.out.alloc _).grown Hrj.out hgrow Hrow.out⟩
        · rw [HL.out, ← List.append_assoc, List.length_append, HLen.out]; simp
        · rw [HL.out, ← List.append_assoc, List.map_append]; exact hown2
        · rcases hat with h | h
          · have := Hrow.out; rw [h] at this; rw [this]; exact Hrj.out
          · exact .inr ⟨g, rfl, by have := Hfj.out.size; omega⟩
      case measure => simp [intOf]; omega
    · obtain rfl : j = 1 := by omega
      have hRb : w.heap.size ≠ b := by omega
      have hRr : some w.heap.size ≠ row := fun e => by have := HR0.out _ e.symm; omega
      obtain ⟨r0, r1, r2, r3⟩ := HS.out.fr Hfj.out hRb hRr HZ0.out
      have hzr := Hfj.out.size
      clear hWj hRb hRr
      have hrj : RowOk row rj w := by
        rcases Hrj.out with h | ⟨g, h, hg⟩
        · exact .inl h
        · exact .inr ⟨g, h, by have := HZ0.out; omega⟩
      have hrR : rj ≠ some w.heap.size := fun e => by
        rcases Hrj.out with h | ⟨g, h, hg⟩
        · have := HR0.out _ (h.symm.trans e); omega
        · rw [h] at e; injection e with e; have := HZ0.out; omega
      have Q1 := Lib.hid hrj
      have Q2 := Lib.hid hrR
      clear hrj hrR
      have P1 := Lib.hid ((HWj.out.setOther (p := ⟨w.heap.size, 0, none⟩) (.slice none 0 0) (Nat.ne_of_gt hbR) Q2.out).setOther (p := ⟨w.heap.size, 1, none⟩) (.int .i64 0) (Nat.ne_of_gt hbR) Q2.out)
      have P2 := Lib.hid ((Fr.after HB0.out Hfj.out).then_ (((Below.refl w.heap.size wr).setCell (p := ⟨w.heap.size, 0, none⟩) (Nat.le_refl _) (.slice none 0 0)).setCell (p := ⟨w.heap.size, 1, none⟩) (Nat.le_refl _) (.int .i64 0)))
      have hcs := res_cells r0 r1 (.slice none 0 0) (.int .i64 0)
      go_wp2
      generalize (wr.setCell ⟨w.heap.size, 0, none⟩ (.slice none 0 0)).setCell ⟨w.heap.size, 1, none⟩ (.int .i64 0) = wf at P1 P2 hcs ⊢
      obtain ⟨c0, c1⟩ := hcs
      exact bodyPost_ret (v := .agg #[.slice none 0 0, .int .i64 0]) (by simp [results, Tryz.results66, go_sem, c0, c1]) rfl ⟨rfl, rj, P1.out, Q1.out, P2.out⟩
set_option maxRecDepth 100000 in
set_option maxHeartbeats 1000000 in
theorem refnum2_ok (b : Nat) (row : Option Nat) (bs : List Int) (n : Int) (w : World) (hn0 : 0 ≤ n) (hn1 : n < 65536) (hW : Wrt w b row bs) (hl : bs.length ≤ 90000000) :
    Calls Tryz.prog 66 #[.pointer (some ⟨b, 0, none⟩), .int .i64 n, .int .i64 2] w fun e w' => e = .returned (.agg #[.slice none 0 0, .int .i64 0]) ∧
      ∃ row', Wrt w' b row' (bs ++ leb n 2) ∧ RowOk row row' w ∧ Fr b row w w' := by
  obtain ⟨i0, hi0, hz0, hz1, hz2⟩ := info_parts infoByte
  have hwd : Width 2 := by unfold Width; omega
  have hd : decide (n < 0) = false := by simp only [decide_eq_false_iff_not]; omega
  have hd2 : decide ((65536 : Int) ≤ n) = false := by simp only [decide_eq_false_iff_not]; omega
  have HW := Lib.hid hW
  have hbR := hW.lt
  have hrow0 : ∀ g, row = some g → g < w.heap.size := fun g hg => (hW.row_lt hg).2
  have HR0 := Lib.hid hrow0
  have N1 := Lib.hid hn1
  clear hW hrow0 hn1
  go_enter Tryz.func66, Tryz.ntmps66
  go_wp2_with (go_at_call 84; refine (wide_yes _ _ hwd).mono ?_; rintro e w' ⟨rfl, rfl⟩)
  have hres : Res (w.alloc (.cells #[.slice none 0 0, .int .i64 0] 115)) w.heap.size := ⟨by simp, by simp, by simp, by simp⟩
  have hb0 : Below w.heap.size w (w.alloc (.cells #[.slice none 0 0, .int .i64 0] 115)) := (Below.refl _ _).alloc (Nat.le_refl _) _
  have hW0 := HW.out.below hb0
  have hz00 : w.heap.size < (w.alloc (.cells #[.slice none 0 0, .int .i64 0] 115)).heap.size := by simp
  have HS := Lib.hid hres
  have HB0 := Lib.hid hb0
  have HW0 := Lib.hid hW0
  have HZ0 := Lib.hid hz00
  clear hres hb0 hW0 hz00
  generalize w.alloc (.cells #[.slice none 0 0, .int .i64 0] 115) = w0 at HS HB0 HW0 HZ0 ⊢
  go_loopw [1, 7] (fun x i wr => ∃ (j : Nat) (rj : Option Nat), j ≤ 2 ∧ x = .int .i64 (n / 256 ^ j) ∧ i = .int .i64 j ∧ Wrt wr b rj (bs ++ leb n j) ∧ RowOk row rj w0 ∧ Fr b row w0 wr) (fun _ i _ => 2 - (intOf i).toNat)
  case atStart => exact ⟨0, row, by omega, by simp, rfl, by simpa [leb] using HW0.out, .inl rfl, Fr.refl _ _ _⟩
  case round =>
    obtain ⟨j, rj, hj, rfl, rfl, hWj, hrj, hfj⟩ := hrel
    have HWj := Lib.hid hWj
    have Hrj := Lib.hid hrj
    have Hfj := Lib.hid hfj
    clear hrj hfj
    by_cases hlt : j < 2
    · obtain ⟨sv, hsv, hsf, hown, hrow⟩ := hWj
      have hlen : (bs ++ leb n j).length = bs.length + j := by rw [List.length_append, leb_len n j (by omega)]
      rw [hlen] at hown
      have hbl := cell_lt hsv
      have hne : sv.ownBlock ≠ some b := fun h => by have := (hown.lt b h).1; omega
      have hX0 : 0 ≤ n / 256 ^ j := Int.ediv_nonneg hn0 (Int.pow_nonneg (by decide))
      have hX1 : n / 256 ^ j ≤ 9223372036854775807 := Int.le_trans (Int.ediv_le_self _ hn0) (by have := N1.out; omega)
      have HX := Lib.hid (pow_div n j)
      have HL := Lib.hid (leb_succ n j (by omega))
      have HLen := Lib.hid hlen
      have Hrow := Lib.hid hrow
      have hjI : (j : Int) < 2 := by omega
      generalize n / 256 ^ j = X at hX0 hX1 HX HL ⊢
      clear hlen hrow
      go_wp2_with (at_builtin; refine wpList_append_lies _ rfl (.tmp 42) (.tmp 46) 98 rfl (b + 1) 5 i0 _ 1 1 Tryz.underlying98 hi0 hz0 hz1 hz2 rfl (by decide) sv _ _ rfl (hown.alloc _) ⟨wr.heap.size, 0, none⟩ 1 1 [.int .u8 (X % 256)] rfl rfl (World.news_of_block (cs := #[.int .u8 (X % 256)]) (t := 5) (fr := (0, 0)) (heap_alloc_new wr _)) (by simp [Value.oneCell']) (by decide) (by unfold maxLen; omega) (by omega) (by simp; omega) (wr.heap.size + 1) (by simp) ?_; intro g cap w2 hown2 hgrow hat hglt; (have hf2 : w2.frozen? ⟨b, 0, none⟩ = false := by rw [hgrow.frozen_far _ (by simp; omega) (Ne.symm hne)]; exact (World.frozen?_alloc_old wr _ ⟨b, 0, none⟩ (Nat.ne_of_lt hbl)).trans hsf); (have hc2 : w2.cell? ⟨b, 0, none⟩ = some sv := by rw [hgrow.cell_far _ (by simp; omega) (Ne.symm hne)]; exact (World.cell?_alloc_lt wr _ ⟨b, 0, none⟩ hbl).trans hsv))
      go_roundw
      case rel =>
        refine ⟨j + 1, some g, by omega, by rw [HX.out], by go_num, Wrt.stored hc2 hf2 ?_ ?_, ?_, (Hfj.out.alloc _).grown Hrj.out hgrow Hrow.out⟩
        · rw [HL.out, ← List.append_assoc, List.length_append, HLen.out]; simp
        · rw [HL.out, ← List.append_assoc, List.map_append]; exact hown2
        · rcases hat with h | h
          · have := Hrow.out; rw [h] at this; rw [this]; exact Hrj.out
          · exact .inr ⟨g, rfl, by have := Hfj.out.size; omega⟩
      case measure => simp [intOf]; omega
    · obtain rfl : j = 2 := by omega
      have hRb : w.heap.size ≠ b := by omega
      have hRr : some w.heap.size ≠ row := fun e => by have := HR0.out _ e.symm; omega
      obtain ⟨r0, r1, r2, r3⟩ := HS.out.fr Hfj.out hRb hRr HZ0.out
      have hzr := Hfj.out.size
      clear hWj hRb hRr
      have hrj : RowOk row rj w := by
        rcases Hrj.out with h | ⟨g, h, hg⟩
        · exact .inl h
        · exact .inr ⟨g, h, by have := HZ0.out; omega⟩
      have hrR : rj ≠ some w.heap.size := fun e => by
        rcases Hrj.out with h | ⟨g, h, hg⟩
        · have := HR0.out _ (h.symm.trans e); omega
        · rw [h] at e; injection e with e; have := HZ0.out; omega
      have Q1 := Lib.hid hrj
      have Q2 := Lib.hid hrR
      clear hrj hrR
      have P1 := Lib.hid ((HWj.out.setOther (p := ⟨w.heap.size, 0, none⟩) (.slice none 0 0) (Nat.ne_of_gt hbR) Q2.out).setOther (p := ⟨w.heap.size, 1, none⟩) (.int .i64 0) (Nat.ne_of_gt hbR) Q2.out)
      have P2 := Lib.hid ((Fr.after HB0.out Hfj.out).then_ (((Below.refl w.heap.size wr).setCell (p := ⟨w.heap.size, 0, none⟩) (Nat.le_refl _) (.slice none 0 0)).setCell (p := ⟨w.heap.size, 1, none⟩) (Nat.le_refl _) (.int .i64 0)))
      have hcs := res_cells r0 r1 (.slice none 0 0) (.int .i64 0)
      go_wp2
      generalize (wr.setCell ⟨w.heap.size, 0, none⟩ (.slice none 0 0)).setCell ⟨w.heap.size, 1, none⟩ (.int .i64 0) = wf at P1 P2 hcs ⊢
      obtain ⟨c0, c1⟩ := hcs
      exact bodyPost_ret (v := .agg #[.slice none 0 0, .int .i64 0]) (by simp [results, Tryz.results66, go_sem, c0, c1]) rfl ⟨rfl, rj, P1.out, Q1.out, P2.out⟩
set_option maxRecDepth 100000 in
set_option maxHeartbeats 1000000 in
theorem refnum8_ok (b : Nat) (row : Option Nat) (bs : List Int) (n : Int) (w : World) (hn0 : 0 ≤ n) (hn1 : n ≤ 9223372036854775807) (hW : Wrt w b row bs) (hl : bs.length ≤ 90000000) :
    Calls Tryz.prog 66 #[.pointer (some ⟨b, 0, none⟩), .int .i64 n, .int .i64 8] w fun e w' => e = .returned (.agg #[.slice none 0 0, .int .i64 0]) ∧
      ∃ row', Wrt w' b row' (bs ++ leb n 8) ∧ RowOk row row' w ∧ Fr b row w w' := by
  obtain ⟨i0, hi0, hz0, hz1, hz2⟩ := info_parts infoByte
  have hwd : Width 8 := by unfold Width; omega
  have hd : decide (n < 0) = false := by simp only [decide_eq_false_iff_not]; omega
  have HW := Lib.hid hW
  have hbR := hW.lt
  have hrow0 : ∀ g, row = some g → g < w.heap.size := fun g hg => (hW.row_lt hg).2
  have HR0 := Lib.hid hrow0
  have N1 := Lib.hid hn1
  clear hW hrow0 hn1
  go_enter Tryz.func66, Tryz.ntmps66
  go_wp2_with (go_at_call 84; refine (wide_yes _ _ hwd).mono ?_; rintro e w' ⟨rfl, rfl⟩)
  have hres : Res (w.alloc (.cells #[.slice none 0 0, .int .i64 0] 115)) w.heap.size := ⟨by simp, by simp, by simp, by simp⟩
  have hb0 : Below w.heap.size w (w.alloc (.cells #[.slice none 0 0, .int .i64 0] 115)) := (Below.refl _ _).alloc (Nat.le_refl _) _
  have hW0 := HW.out.below hb0
  have hz00 : w.heap.size < (w.alloc (.cells #[.slice none 0 0, .int .i64 0] 115)).heap.size := by simp
  have HS := Lib.hid hres
  have HB0 := Lib.hid hb0
  have HW0 := Lib.hid hW0
  have HZ0 := Lib.hid hz00
  clear hres hb0 hW0 hz00
  generalize w.alloc (.cells #[.slice none 0 0, .int .i64 0] 115) = w0 at HS HB0 HW0 HZ0 ⊢
  go_loopw [1, 7] (fun x i wr => ∃ (j : Nat) (rj : Option Nat), j ≤ 8 ∧ x = .int .i64 (n / 256 ^ j) ∧ i = .int .i64 j ∧ Wrt wr b rj (bs ++ leb n j) ∧ RowOk row rj w0 ∧ Fr b row w0 wr) (fun _ i _ => 8 - (intOf i).toNat)
  case atStart => exact ⟨0, row, by omega, by simp, rfl, by simpa [leb] using HW0.out, .inl rfl, Fr.refl _ _ _⟩
  case round =>
    obtain ⟨j, rj, hj, rfl, rfl, hWj, hrj, hfj⟩ := hrel
    have HWj := Lib.hid hWj
    have Hrj := Lib.hid hrj
    have Hfj := Lib.hid hfj
    clear hrj hfj
    by_cases hlt : j < 8
    · obtain ⟨sv, hsv, hsf, hown, hrow⟩ := hWj
      have hlen : (bs ++ leb n j).length = bs.length + j := by rw [List.length_append, leb_len n j (by omega)]
      rw [hlen] at hown
      have hbl := cell_lt hsv
      have hne : sv.ownBlock ≠ some b := fun h => by have := (hown.lt b h).1; omega
      have hX0 : 0 ≤ n / 256 ^ j := Int.ediv_nonneg hn0 (Int.pow_nonneg (by decide))
      have hX1 : n / 256 ^ j ≤ 9223372036854775807 := Int.le_trans (Int.ediv_le_self _ hn0) (by have := N1.out; omega)
      have HX := Lib.hid (pow_div n j)
      have HL := Lib.hid (leb_succ n j (by omega))
      have HLen := Lib.hid hlen
      have Hrow := Lib.hid hrow
      have hjI : (j : Int) < 8 := by omega
      generalize n / 256 ^ j = X at hX0 hX1 HX HL ⊢
      clear hlen hrow
      go_wp2_with (at_builtin; refine wpList_append_lies _ rfl (.tmp 42) (.tmp 46) 98 rfl (b + 1) 5 i0 _ 1 1 Tryz.underlying98 hi0 hz0 hz1 hz2 rfl (by decide) sv _ _ rfl (hown.alloc _) ⟨wr.heap.size, 0, none⟩ 1 1 [.int .u8 (X % 256)] rfl rfl (World.news_of_block (cs := #[.int .u8 (X % 256)]) (t := 5) (fr := (0, 0)) (heap_alloc_new wr _)) (by simp [Value.oneCell']) (by decide) (by unfold maxLen; omega) (by omega) (by simp; omega) (wr.heap.size + 1) (by simp) ?_; intro g cap w2 hown2 hgrow hat hglt; (have hf2 : w2.frozen? ⟨b, 0, none⟩ = false := by rw [hgrow.frozen_far _ (by simp; omega) (Ne.symm hne)]; exact (World.frozen?_alloc_old wr _ ⟨b, 0, none⟩ (Nat.ne_of_lt hbl)).trans hsf); (have hc2 : w2.cell? ⟨b, 0, none⟩ = some sv := by rw [hgrow.cell_far _ (by simp; omega) (Ne.symm hne)]; exact (World.cell?_alloc_lt wr _ ⟨b, 0, none⟩ hbl).trans hsv))
      go_roundw
      case rel =>
        refine ⟨j + 1, some g, by omega, by rw [HX.out], by go_num, Wrt.stored hc2 hf2 ?_ ?_, ?_, (Hfj.out.alloc _).grown Hrj.out hgrow Hrow.out⟩
        · rw [HL.out, ← List.append_assoc, List.length_append, HLen.out]; simp
        · rw [HL.out, ← List.append_assoc, List.map_append]; exact hown2
        · rcases hat with h | h
          · have := Hrow.out; rw [h] at this; rw [this]; exact Hrj.out
          · exact .inr ⟨g, rfl, by have := Hfj.out.size; omega⟩
      case measure => simp [intOf]; omega
    · obtain rfl : j = 8 := by omega
      have hRb : w.heap.size ≠ b := by omega
      have hRr : some w.heap.size ≠ row := fun e => by have := HR0.out _ e.symm; omega
      obtain ⟨r0, r1, r2, r3⟩ := HS.out.fr Hfj.out hRb hRr HZ0.out
      have hzr := Hfj.out.size
      clear hWj hRb hRr
      have hrj : RowOk row rj w := by
        rcases Hrj.out with h | ⟨g, h, hg⟩
        · exact .inl h
        · exact .inr ⟨g, h, by have := HZ0.out; omega⟩
      have hrR : rj ≠ some w.heap.size := fun e => by
        rcases Hrj.out with h | ⟨g, h, hg⟩
        · have := HR0.out _ (h.symm.trans e); omega
        · rw [h] at e; injection e with e; have := HZ0.out; omega
      have Q1 := Lib.hid hrj
      have Q2 := Lib.hid hrR
      clear hrj hrR
      have P1 := Lib.hid ((HWj.out.setOther (p := ⟨w.heap.size, 0, none⟩) (.slice none 0 0) (Nat.ne_of_gt hbR) Q2.out).setOther (p := ⟨w.heap.size, 1, none⟩) (.int .i64 0) (Nat.ne_of_gt hbR) Q2.out)
      have P2 := Lib.hid ((Fr.after HB0.out Hfj.out).then_ (((Below.refl w.heap.size wr).setCell (p := ⟨w.heap.size, 0, none⟩) (Nat.le_refl _) (.slice none 0 0)).setCell (p := ⟨w.heap.size, 1, none⟩) (Nat.le_refl _) (.int .i64 0)))
      have hcs := res_cells r0 r1 (.slice none 0 0) (.int .i64 0)
      go_wp2
      generalize (wr.setCell ⟨w.heap.size, 0, none⟩ (.slice none 0 0)).setCell ⟨w.heap.size, 1, none⟩ (.int .i64 0) = wf at P1 P2 hcs ⊢
      obtain ⟨c0, c1⟩ := hcs
      exact bodyPost_ret (v := .agg #[.slice none 0 0, .int .i64 0]) (by simp [results, Tryz.results66, go_sem, c0, c1]) rfl ⟨rfl, rj, P1.out, Q1.out, P2.out⟩
/-- A reader in block b: its bytes s; it stands at a. -/
def Rdr (w : World) (b : Nat) (s : ByteArray) (a : Nat) : Prop :=
  w.cell? ⟨b, 0, none⟩ = some (.string s) ∧ w.cell? ⟨b, 1, none⟩ = some (.int .i64 a) ∧ w.frozen? ⟨b, 1, none⟩ = false
theorem Rdr.lt {w : World} {b a : Nat} {s : ByteArray} (h : Rdr w b s a) : b < w.heap.size := cell_lt h.1
theorem Rdr.belowB {w w' : World} {B : Nat} (hb : Below B w w') {b a : Nat} {s : ByteArray} (hB : b < B) (h : Rdr w b s a) : Rdr w' b s a :=
  ⟨by rw [hb.cell (p := ⟨b, 0, none⟩) hB]; exact h.1, by rw [hb.cell (p := ⟨b, 1, none⟩) hB]; exact h.2.1, by rw [hb.frozen (p := ⟨b, 1, none⟩) hB]; exact h.2.2⟩
theorem Rdr.below {w w' : World} (hb : Below w.heap.size w w') {b a : Nat} {s : ByteArray} (h : Rdr w b s a) : Rdr w' b s a := h.belowB hb h.lt
theorem Rdr.stored {w w1 : World} {b a : Nat} {s : ByteArray} (hb : Below w.heap.size w w1) (h : Rdr w1 b s a) (c : Nat) :
    Rdr (w1.setCell ⟨b, 1, none⟩ (.int .i64 c)) b s c ∧ Fr b none w (w1.setCell ⟨b, 1, none⟩ (.int .i64 c)) := by
  obtain ⟨h0, h1, h2⟩ := h
  refine ⟨⟨?_, World.cell?_setCell_same _ _ _ h1, by rw [World.frozen?_setCell]; exact h2⟩, ⟨hb.os, hb.tape, hb.output, by simp [World.setCell]; exact hb.size, fun k hk hkb _ => ?_⟩⟩
  · rw [World.cell?_setCell_other _ _ _ _ (by simp)]; exact h0
  · rw [Below.heap_setCell _ _ _ _ (by simpa using hkb)]; exact hb.block k hk
theorem bt_extract (s : ByteArray) (a i : Nat) (h : a + i < s.size) : bt (s.extract a s.size) i = bt s (a + i) := by
  have h1 : i < (s.extract a s.size).size := by simp; omega
  unfold bt
  rw [dif_pos h1, dif_pos h]
  simp [ByteArray.getElem_extract]
/-- The number that bytes i to k - 1 make. -/
def hv (s : ByteArray) (a k : Nat) : Nat → Nat → Int
  | 0, _ => 0
  | f + 1, i => if i < k then bt s (a + i) + 256 * hv s a k f (i + 1) else 0
theorem hv_fuel (s : ByteArray) (a k : Nat) : ∀ f i, k ≤ i → hv s a k f i = 0
  | 0, _, _ => rfl
  | f + 1, i, h => by simp only [hv]; rw [if_neg (by omega)]
theorem hv_enough (s : ByteArray) (a k : Nat) : ∀ f g i, k ≤ f + i → k ≤ g + i → hv s a k f i = hv s a k g i
  | 0, g, i, h, _ => by rw [hv_fuel s a k 0 i (by omega), hv_fuel s a k g i (by omega)]
  | f + 1, 0, i, _, h => by rw [hv_fuel s a k 0 i (by omega), hv_fuel s a k (f + 1) i (by omega)]
  | f + 1, g + 1, i, h, h' => by
    simp only [hv]
    split
    · rw [hv_enough s a k f g (i + 1) (by omega) (by omega)]
    · rfl
/-- From i on. -/
def hvf (s : ByteArray) (a k i : Nat) : Int := hv s a k k i
theorem hvf_end (s : ByteArray) (a k : Nat) : hvf s a k k = 0 := hv_fuel s a k k k (Nat.le_refl _)
theorem hvf_step (s : ByteArray) (a k i : Nat) (h : i < k) : hvf s a k i = hvf s a k (i + 1) * 256 + bt s (a + i) := by
  unfold hvf
  obtain ⟨f, rfl⟩ : ∃ f, k = f + 1 := ⟨k - 1, by omega⟩
  rw [show hv s a (f + 1) (f + 1) i = bt s (a + i) + 256 * hv s a (f + 1) f (i + 1) from by simp only [hv]; rw [if_pos h], hv_enough s a (f + 1) f (f + 1) (i + 1) (by omega) (by omega)]
  omega
theorem hvf_nonneg (s : ByteArray) (a k : Nat) : ∀ d i, k = i + d → 0 ≤ hvf s a k i
  | 0, i, h => by have : i = k := by omega
                  subst this; rw [hvf_end]; decide
  | d + 1, i, h => by
    rw [hvf_step s a k i (by omega)]
    have := hvf_nonneg s a k d (i + 1) (by omega)
    have := bt_nonneg s (a + i)
    omega
theorem lev_hvf (s : ByteArray) (a k : Nat) (hk : a + k ≤ s.size) : ∀ m, m ≤ k → lev (s.extract a s.size) m + 256 ^ m * hvf s a k m = hvf s a k 0
  | 0, _ => by simp [lev]
  | m + 1, h => by
    have ih := lev_hvf s a k hk m (by omega)
    rw [hvf_step s a k m (by omega)] at ih
    simp only [lev]
    rw [bt_extract s a m (by omega)]
    have e : (256 : Int) ^ (m + 1) = 256 ^ m * 256 := Int.pow_succ _ _
    rw [e, ← ih, Int.mul_add, Int.mul_comm (bt s (a + m)), Int.mul_assoc, Int.mul_comm (hvf s a k (m + 1)) 256]
    omega
theorem hvf_lev (s : ByteArray) (a k : Nat) (hk : a + k ≤ s.size) : hvf s a k 0 = lev (s.extract a s.size) k := by
  have := lev_hvf s a k hk k (Nat.le_refl _)
  rw [hvf_end] at this
  omega
theorem hvf_mono (s : ByteArray) (a k : Nat) : ∀ i, i ≤ k → hvf s a k i ≤ hvf s a k 0
  | 0, _ => Int.le_refl _
  | i + 1, h => by
    have ih := hvf_mono s a k i (by omega)
    have st := hvf_step s a k i (by omega)
    have := hvf_nonneg s a k (k - (i + 1)) (i + 1) (by omega)
    have := bt_nonneg s (a + i)
    omega
theorem Rdr.setOther {w : World} {b a : Nat} {s : ByteArray} (h : Rdr w b s a) {p : Addr} (u : Value) (hp : p.block ≠ b) : Rdr (w.setCell p u) b s a := by
  obtain ⟨h0, h1, h2⟩ := h
  exact ⟨by rw [World.cell?_setCell_other _ _ _ _ (fun e => hp (by rw [e]))]; exact h0, by rw [World.cell?_setCell_other _ _ _ _ (fun e => hp (by rw [e]))]; exact h1, by rw [World.frozen?_setCell]; exact h2⟩
theorem width8' : Width 8 := .inr (.inr (.inr rfl))
set_option maxRecDepth 100000 in
theorem rrnum_long (b a : Nat) (s : ByteArray) (w : World) (hR : Rdr w b s a) (hs : s.size ≤ 1000000000) (hl : a + 8 ≤ s.size) (hb7 : 127 < bt s (a + 7)) :
    Calls Tryz.prog 75 #[.pointer (some ⟨b, 0, none⟩), .int .i64 8] w fun e w' => ∃ A at_, e = .returned (.tuple #[.int .i64 0, .agg #[.slice A 1 1, .int .i64 at_]]) ∧ RF w' A 1 1 [11] ∧ Below w.heap.size w w' := by
  have e1 : IntKind.i64.wrap ((s.size : Int) - (a : Int)) = (s.size : Int) - (a : Int) := IntWalk.i64_in _ (by omega)
  have hk : Width 8 := width8'
  have hd : decide ((s.size : Int) - (a : Int) < 8) = false := by simp only [decide_eq_false_iff_not]; omega
  have hbt := get_bt s
  have hd7 : decide ((127 : Int) < bt s (a + 7)) = true := by simp only [decide_eq_true_eq]; exact hb7
  have e2 : IntKind.i64.wrap ((a : Int) + 7) = (a : Int) + 7 := IntWalk.i64_in _ (by omega)
  have e3 : (0 : Int) ≤ (a : Int) + 7 := by omega
  have e4 : (a : Int) + 7 < (s.size : Int) := by omega
  have e5 : ((a : Int) + 7).toNat = a + 7 := by omega
  have hres : Res (w.alloc (.cells #[.slice none 0 0, .int .i64 0] 115)) w.heap.size := ⟨by simp, by simp, by simp, by simp⟩
  have hb0 : Below w.heap.size w (w.alloc (.cells #[.slice none 0 0, .int .i64 0] 115)) := (Below.refl _ _).alloc (Nat.le_refl _) _
  have hz00 : w.heap.size < (w.alloc (.cells #[.slice none 0 0, .int .i64 0] 115)).heap.size := by simp
  have hbl := hR.lt
  have HR := Lib.hid (hR.below hb0)
  have HS := Lib.hid hres
  have HB0 := Lib.hid hb0
  have HZ0 := Lib.hid hz00
  clear hR hres hb0 hz00
  go_enter Tryz.func75, Tryz.ntmps75
  go_wp2_with fail
  generalize w.alloc (.cells #[.slice none 0 0, .int .i64 0] 115) = w0 at HR HS HB0 HZ0 ⊢
  go_at_call 84
  refine (wide_yes _ _ hk).mono ?_
  rintro e w' ⟨rfl, rfl⟩
  obtain ⟨h0, h1, h2⟩ := HR.out
  go_wp2_with fail
  go_quiet (fail)
  have hBn : Below w0.heap.size w0 (w0.drewN nq) := below_drewN (Below.refl _ _) nq
  obtain ⟨h0', h1', h2'⟩ := HR.out.below hBn
  have HBn := Lib.hid hBn
  clear h0 h1 h2 hBn
  generalize w0.drewN nq = w1 at h0' h1' h2' HBn ⊢
  go_wp2_with fail
  go_quiet (fail)
  have hBm : Below w0.heap.size w0 (w1.drewN nq) := below_drewN HBn.out nq
  obtain ⟨h0, h1, h2⟩ := HR.out.below hBm
  have HBm := Lib.hid hBm
  clear h0' h1' h2' hBm
  generalize w1.drewN nq = w3 at h0 h1 h2 HBm ⊢
  go_wp2_with fail
  go_at_call 85
  refine (one_any 11 _ _).mono ?_
  rintro e w2 ⟨A, rfl, hA, hg, hb⟩
  have hzn : w.heap.size < w3.heap.size := Nat.lt_of_lt_of_le HZ0.out HBm.out.size
  obtain ⟨r0, r1, r2, r3⟩ := (HS.out.below HBm.out HZ0.out).below hb hzn
  have hgR : ∀ g, A = some ⟨g, 0, none⟩ → w.heap.size ≠ g := fun g h => by have := hg g h; omega
  have P1 := Lib.hid ((hA.setOther (p := ⟨w.heap.size, 0, none⟩) (.slice A 1 1) hgR).setOther (p := ⟨w.heap.size, 1, none⟩) (.int .i64 a) hgR)
  have P2 := Lib.hid (HB0.out.trans (((HBm.out.mono (Nat.le_of_lt HZ0.out)).trans (hb.mono (Nat.le_of_lt hzn))).setCell (p := ⟨w.heap.size, 0, none⟩) (Nat.le_refl _) (.slice A 1 1) |>.setCell (p := ⟨w.heap.size, 1, none⟩) (Nat.le_refl _) (.int .i64 a)))
  have hcs := res_cells r0 r1 (.slice A 1 1) (.int .i64 a)
  clear hA hg hb hgR hzn
  go_wp2
  generalize (w2.setCell ⟨w.heap.size, 0, none⟩ (.slice A 1 1)).setCell ⟨w.heap.size, 1, none⟩ (.int .i64 a) = wf at P1 P2 hcs ⊢
  obtain ⟨k0, k1⟩ := hcs
  exact bodyPost_ret (v := .tuple #[.int .i64 0, .agg #[.slice A 1 1, .int .i64 a]]) (by simp [results, Tryz.results75, go_sem, k0, k1]) rfl ⟨A, _, rfl, P1.out, P2.out⟩
set_option maxRecDepth 100000 in
set_option maxHeartbeats 1000000 in
theorem rrnum_ok8 (b a : Nat) (s : ByteArray) (w : World) (hR : Rdr w b s a) (hs : s.size ≤ 1000000000) (hl : a + 8 ≤ s.size) (hb7 : bt s (a + 7) ≤ 127) (hV : hvf s a 8 0 ≤ 9223372036854775807) :
    Calls Tryz.prog 75 #[.pointer (some ⟨b, 0, none⟩), .int .i64 8] w fun e w' => e = .returned (.tuple #[.int .i64 (hvf s a 8 0), .agg #[.slice none 0 0, .int .i64 0]]) ∧ Rdr w' b s (a + 8) ∧ Fr b none w w' := by
  have e1 : IntKind.i64.wrap ((s.size : Int) - (a : Int)) = (s.size : Int) - (a : Int) := IntWalk.i64_in _ (by omega)
  have hk : Width 8 := width8'
  have hd : decide ((s.size : Int) - (a : Int) < 8) = false := by simp only [decide_eq_false_iff_not]; omega
  have hbt := get_bt s
  have hd7 : decide ((127 : Int) < bt s (a + 7)) = false := by simp only [decide_eq_false_iff_not]; omega
  have e2 : IntKind.i64.wrap ((a : Int) + 7) = (a : Int) + 7 := IntWalk.i64_in _ (by omega)
  have e3 : (0 : Int) ≤ (a : Int) + 7 := by omega
  have e4 : (a : Int) + 7 < (s.size : Int) := by omega
  have e5 : ((a : Int) + 7).toNat = a + 7 := by omega
  have hres : Res (w.alloc (.cells #[.slice none 0 0, .int .i64 0] 115)) w.heap.size := ⟨by simp, by simp, by simp, by simp⟩
  have hb0 : Below w.heap.size w (w.alloc (.cells #[.slice none 0 0, .int .i64 0] 115)) := (Below.refl _ _).alloc (Nat.le_refl _) _
  have hz00 : w.heap.size < (w.alloc (.cells #[.slice none 0 0, .int .i64 0] 115)).heap.size := by simp
  have hbl := hR.lt
  have HR := Lib.hid (hR.below hb0)
  have HS := Lib.hid hres
  have HB0 := Lib.hid hb0
  have HZ0 := Lib.hid hz00
  clear hR hres hb0 hz00
  go_enter Tryz.func75, Tryz.ntmps75
  go_wp2_with fail
  generalize w.alloc (.cells #[.slice none 0 0, .int .i64 0] 115) = w0 at HR HS HB0 HZ0 ⊢
  go_at_call 84
  refine (wide_yes _ _ hk).mono ?_
  rintro e w' ⟨rfl, rfl⟩
  obtain ⟨h0, h1, h2⟩ := HR.out
  go_wp2_with fail
  go_quiet (fail)
  have hBn : Below w0.heap.size w0 (w0.drewN nq) := below_drewN (Below.refl _ _) nq
  obtain ⟨h0', h1', h2'⟩ := HR.out.below hBn
  have HBn := Lib.hid hBn
  clear h0 h1 h2 hBn
  generalize w0.drewN nq = w1 at h0' h1' h2' HBn ⊢
  go_wp2_with fail
  go_quiet (fail)
  have hBm : Below w0.heap.size w0 (w1.drewN nq) := below_drewN HBn.out nq
  have HRm := Lib.hid (HR.out.below hBm)
  have HBm := Lib.hid hBm
  clear h0' h1' h2' hBm
  generalize w1.drewN nq = w3 at HRm HBm ⊢
  go_wp2
  go_loopw [6, 7] (fun x i wr => ∃ j : Nat, j ≤ 8 ∧ i = .int .i64 ((j : Int) - 1) ∧ x = .int .i64 (hvf s a 8 j) ∧ Rdr wr b s a ∧ Below w0.heap.size w0 wr) (fun _ i _ => (intOf i + 1).toNat)
  case atStart => exact ⟨8, Nat.le_refl _, rfl, by rw [hvf_end], HRm.out, HBm.out⟩
  case round =>
    obtain ⟨j, hj, rfl, rfl, hRj, hBj⟩ := hrel
    have HRj := Lib.hid hRj
    have HBj := Lib.hid hBj
    clear hBj
    cases j with
    | zero =>
      obtain ⟨h0, h1, h2⟩ := hRj
      obtain ⟨r0, r1, r2, r3⟩ := HS.out.below HBj.out HZ0.out
      have ez : ((0 : Nat) : Int) - 1 = -1 := rfl
      rw [ez]
      have ea : IntKind.i64.wrap ((a : Int) + 8) = ((a + 8 : Nat) : Int) := by rw [IntWalk.i64_in _ (by omega)]; omega
      have hne : (⟨w.heap.size, 0, none⟩ : Addr) ≠ ⟨b, 1, none⟩ := fun e => by injection e with e1; omega
      have hne1 : (⟨w.heap.size, 1, none⟩ : Addr) ≠ ⟨b, 1, none⟩ := fun e => by injection e with e1; omega
      have hbR : b ≠ w.heap.size := by omega
      generalize hVV : hvf s a 8 0 = V at hV ⊢
      have HVV := Lib.hid hVV
      have hst := Rdr.stored HBj.out ⟨h0, h1, h2⟩ (a + 8)
      have ec : ((a + 8 : Nat) : Int) = (a : Int) + 8 := by omega
      rw [ec] at hst
      have r0' : (wr.setCell ⟨b, 1, none⟩ (.int .i64 ((a : Int) + 8))).cell? ⟨w.heap.size, 0, none⟩ = some (.slice none 0 0) := by rw [World.cell?_setCell_other _ _ _ _ (Ne.symm hne)]; exact r0
      have r1' : (wr.setCell ⟨b, 1, none⟩ (.int .i64 ((a : Int) + 8))).cell? ⟨w.heap.size, 1, none⟩ = some (.int .i64 0) := by rw [World.cell?_setCell_other _ _ _ _ (Ne.symm hne1)]; exact r1
      have HST := Lib.hid hst
      have R0 := Lib.hid r0'
      have R1 := Lib.hid r1'
      clear hVV hst r0' r1' ec
      go_wp2
      rw [HVV.out]
      have hst := HST.out
      have r0' := R0.out
      have r1' := R1.out
      generalize wr.setCell ⟨b, 1, none⟩ (.int .i64 ((a : Int) + 8)) = w4 at hst r0' r1' ⊢
      obtain ⟨c0, c1⟩ := res_cells r0' r1' (.slice none 0 0) (.int .i64 0)
      exact bodyPost_ret (v := .tuple #[.int .i64 V, .agg #[.slice none 0 0, .int .i64 0]]) (by simp [results, Tryz.results75, go_sem, c0, c1]) rfl ⟨rfl, (hst.1.setOther (p := ⟨w.heap.size, 0, none⟩) _ (Ne.symm hbR)).setOther (p := ⟨w.heap.size, 1, none⟩) _ (Ne.symm hbR), (Fr.after HB0.out hst.2).then_ (((Below.refl w.heap.size w4).setCell (p := ⟨w.heap.size, 0, none⟩) (Nat.le_refl _) _).setCell (p := ⟨w.heap.size, 1, none⟩) (Nat.le_refl _) _)⟩
    | succ m =>
      have ez : (((m + 1 : Nat)) : Int) - 1 = (m : Int) := by omega
      rw [ez]
      have hst := hvf_step s a 8 m (by omega)
      have hmo := hvf_mono s a 8 m (by omega)
      have hn1 := hvf_nonneg s a 8 (8 - (m + 1)) (m + 1) (by omega)
      have hb0 := bt_nonneg s (a + m)
      have HST := Lib.hid hst
      obtain ⟨h0, h1, h2⟩ := hRj
      have x1 : IntKind.i64.wrap (hvf s a 8 (m + 1) * 256) = hvf s a 8 (m + 1) * 256 := IntWalk.i64_in _ (by omega)
      have x2 : IntKind.i64.wrap (hvf s a 8 (m + 1) * 256 + bt s (a + m)) = hvf s a 8 (m + 1) * 256 + bt s (a + m) := IntWalk.i64_in _ (by omega)
      have x3 : IntKind.i64.wrap ((a : Int) + (m : Int)) = ((a + m : Nat) : Int) := by rw [IntWalk.i64_in _ (by omega)]; omega
      have x4 : ((a + m : Nat) : Int) < (s.size : Int) := by omega
      have x5 : (0 : Int) ≤ ((a + m : Nat) : Int) := by omega
      have x6 : IntKind.i64.wrap (bt s (a + m)) = bt s (a + m) := IntWalk.i64_in _ (by have := bt_le s (a + m); omega)
      have hm0 : (0 : Int) ≤ (m : Int) := by omega
      generalize hvf s a 8 (m + 1) = Y at hst hn1 HST x1 x2 ⊢
      clear hst hmo hn1
      go_wp2
      go_quiet (fail)
      go_wp2
      go_roundw
      case rel => exact ⟨m, by omega, rfl, by rw [HST.out], HRj.out.below (below_drewN (Below.refl _ _) nq), below_drewN HBj.out nq⟩
      case measure => simp [intOf]
set_option maxRecDepth 100000 in
set_option maxHeartbeats 1000000 in
theorem rrnum_okv (b a : Nat) (s : ByteArray) (k : Nat) (w : World) (hR : Rdr w b s a) (hs : s.size ≤ 1000000000) (hl : a + k ≤ s.size) (hkw : Width (k : Int)) (hk4 : k ≤ 4) (hV : hvf s a k 0 ≤ 9223372036854775807) :
    Calls Tryz.prog 75 #[.pointer (some ⟨b, 0, none⟩), .int .i64 (k : Int)] w fun e w' => e = .returned (.tuple #[.int .i64 (hvf s a k 0), .agg #[.slice none 0 0, .int .i64 0]]) ∧ Rdr w' b s (a + k) ∧ Fr b none w w' := by
  have e1 : IntKind.i64.wrap ((s.size : Int) - (a : Int)) = (s.size : Int) - (a : Int) := IntWalk.i64_in _ (by omega)
  have hk : Width (k : Int) := hkw
  have hd : decide ((s.size : Int) - (a : Int) < (k : Int)) = false := by simp only [decide_eq_false_iff_not]; omega
  have hbt := get_bt s
  have hne8 : ((k : Int) == 8) = false := by simp only [beq_eq_false_iff_ne]; omega
  have hkp : 0 < k := by unfold Width at hkw; omega
  have hkm : IntKind.i64.wrap ((k : Int) - 1) = (k : Int) - 1 := IntWalk.i64_in _ (by omega)
  have hres : Res (w.alloc (.cells #[.slice none 0 0, .int .i64 0] 115)) w.heap.size := ⟨by simp, by simp, by simp, by simp⟩
  have hb0 : Below w.heap.size w (w.alloc (.cells #[.slice none 0 0, .int .i64 0] 115)) := (Below.refl _ _).alloc (Nat.le_refl _) _
  have hz00 : w.heap.size < (w.alloc (.cells #[.slice none 0 0, .int .i64 0] 115)).heap.size := by simp
  have hbl := hR.lt
  have HR := Lib.hid (hR.below hb0)
  have HS := Lib.hid hres
  have HB0 := Lib.hid hb0
  have HZ0 := Lib.hid hz00
  clear hR hres hb0 hz00
  go_enter Tryz.func75, Tryz.ntmps75
  go_wp2_with fail
  generalize w.alloc (.cells #[.slice none 0 0, .int .i64 0] 115) = w0 at HR HS HB0 HZ0 ⊢
  go_at_call 84
  refine (wide_yes _ _ hk).mono ?_
  rintro e w' ⟨rfl, rfl⟩
  obtain ⟨h0, h1, h2⟩ := HR.out
  go_wp2_with fail
  go_quiet (fail)
  have hBn : Below w0.heap.size w0 (w0.drewN nq) := below_drewN (Below.refl _ _) nq
  obtain ⟨h0', h1', h2'⟩ := HR.out.below hBn
  have HBn := Lib.hid hBn
  clear h0 h1 h2 hBn
  generalize w0.drewN nq = w1 at h0' h1' h2' HBn ⊢
  go_wp2_with fail
  go_quiet (fail)
  have hBm : Below w0.heap.size w0 (w1.drewN nq) := below_drewN HBn.out nq
  have HRm := Lib.hid (HR.out.below hBm)
  have HBm := Lib.hid hBm
  clear h0' h1' h2' hBm
  generalize w1.drewN nq = w3 at HRm HBm ⊢
  go_wp2
  go_loopw [6, 7] (fun x i wr => ∃ j : Nat, j ≤ k ∧ i = .int .i64 ((j : Int) - 1) ∧ x = .int .i64 (hvf s a k j) ∧ Rdr wr b s a ∧ Below w0.heap.size w0 wr) (fun _ i _ => (intOf i + 1).toNat)
  case atStart => exact ⟨k, Nat.le_refl _, rfl, by rw [hvf_end], HRm.out, HBm.out⟩
  case round =>
    obtain ⟨j, hj, rfl, rfl, hRj, hBj⟩ := hrel
    have HRj := Lib.hid hRj
    have HBj := Lib.hid hBj
    clear hBj
    cases j with
    | zero =>
      obtain ⟨h0, h1, h2⟩ := hRj
      obtain ⟨r0, r1, r2, r3⟩ := HS.out.below HBj.out HZ0.out
      have ez : ((0 : Nat) : Int) - 1 = -1 := rfl
      rw [ez]
      have ea : IntKind.i64.wrap ((a : Int) + (k : Int)) = ((a + k : Nat) : Int) := by rw [IntWalk.i64_in _ (by omega)]; omega
      have hne : (⟨w.heap.size, 0, none⟩ : Addr) ≠ ⟨b, 1, none⟩ := fun e => by injection e with e1; omega
      have hne1 : (⟨w.heap.size, 1, none⟩ : Addr) ≠ ⟨b, 1, none⟩ := fun e => by injection e with e1; omega
      have hbR : b ≠ w.heap.size := by omega
      generalize hVV : hvf s a k 0 = V at hV ⊢
      have HVV := Lib.hid hVV
      have hst := Rdr.stored HBj.out ⟨h0, h1, h2⟩ (a + k)
      have ec : ((a + k : Nat) : Int) = (a : Int) + (k : Int) := by omega
      rw [ec] at hst
      have r0' : (wr.setCell ⟨b, 1, none⟩ (.int .i64 ((a : Int) + (k : Int)))).cell? ⟨w.heap.size, 0, none⟩ = some (.slice none 0 0) := by rw [World.cell?_setCell_other _ _ _ _ (Ne.symm hne)]; exact r0
      have r1' : (wr.setCell ⟨b, 1, none⟩ (.int .i64 ((a : Int) + (k : Int)))).cell? ⟨w.heap.size, 1, none⟩ = some (.int .i64 0) := by rw [World.cell?_setCell_other _ _ _ _ (Ne.symm hne1)]; exact r1
      have HST := Lib.hid hst
      have R0 := Lib.hid r0'
      have R1 := Lib.hid r1'
      clear hVV hst r0' r1' ec
      go_wp2
      rw [HVV.out]
      have hst := HST.out
      have r0' := R0.out
      have r1' := R1.out
      generalize wr.setCell ⟨b, 1, none⟩ (.int .i64 ((a : Int) + (k : Int))) = w4 at hst r0' r1' ⊢
      obtain ⟨c0, c1⟩ := res_cells r0' r1' (.slice none 0 0) (.int .i64 0)
      exact bodyPost_ret (v := .tuple #[.int .i64 V, .agg #[.slice none 0 0, .int .i64 0]]) (by simp [results, Tryz.results75, go_sem, c0, c1]) rfl ⟨rfl, (hst.1.setOther (p := ⟨w.heap.size, 0, none⟩) _ (Ne.symm hbR)).setOther (p := ⟨w.heap.size, 1, none⟩) _ (Ne.symm hbR), (Fr.after HB0.out hst.2).then_ (((Below.refl w.heap.size w4).setCell (p := ⟨w.heap.size, 0, none⟩) (Nat.le_refl _) _).setCell (p := ⟨w.heap.size, 1, none⟩) (Nat.le_refl _) _)⟩
    | succ m =>
      have ez : (((m + 1 : Nat)) : Int) - 1 = (m : Int) := by omega
      rw [ez]
      have hst := hvf_step s a k m (by omega)
      have hmo := hvf_mono s a k m (by omega)
      have hn1 := hvf_nonneg s a k (k - (m + 1)) (m + 1) (by omega)
      have hb0 := bt_nonneg s (a + m)
      have HST := Lib.hid hst
      obtain ⟨h0, h1, h2⟩ := hRj
      have x1 : IntKind.i64.wrap (hvf s a k (m + 1) * 256) = hvf s a k (m + 1) * 256 := IntWalk.i64_in _ (by omega)
      have x2 : IntKind.i64.wrap (hvf s a k (m + 1) * 256 + bt s (a + m)) = hvf s a k (m + 1) * 256 + bt s (a + m) := IntWalk.i64_in _ (by omega)
      have x3 : IntKind.i64.wrap ((a : Int) + (m : Int)) = ((a + m : Nat) : Int) := by rw [IntWalk.i64_in _ (by omega)]; omega
      have x4 : ((a + m : Nat) : Int) < (s.size : Int) := by omega
      have x5 : (0 : Int) ≤ ((a + m : Nat) : Int) := by omega
      have x6 : IntKind.i64.wrap (bt s (a + m)) = bt s (a + m) := IntWalk.i64_in _ (by have := bt_le s (a + m); omega)
      have hm0 : (0 : Int) ≤ (m : Int) := by omega
      generalize hvf s a k (m + 1) = Y at hst hn1 HST x1 x2 ⊢
      clear hst hmo hn1
      go_wp2
      go_quiet (fail)
      go_wp2
      go_roundw
      case rel => exact ⟨m, by omega, rfl, by rw [HST.out], HRj.out.below (below_drewN (Below.refl _ _) nq), below_drewN HBj.out nq⟩
      case measure => simp [intOf]
end Go.Proofs.YtacdbfaoeioflaaGreatDoor
