/-
  A list of messages in a row of memory; a bag: a pointer to one field that holds such a list; what is kept while others turn.
-/
import Derived.Test.YthcoghgpdcnhlaaRchk
import Derived.Deep.AppendLies
import Derived.Deep.RegionHeld3
import Derived.Deep.RegionLaw
namespace Go.Proofs.Ythcoghgpdcnhlaa
open Go.RowKit

/-- The cells of messages, one behind the other. -/
def flat : List M → List Value
  | [] => []
  | m :: l => m.cells.toList ++ flat l
theorem flat_length (l : List M) : (flat l).length = l.length * 8 := by
  induction l with
  | nil => rfl
  | cons m l ih => simp only [flat, List.length_append, ih, List.length_cons]; simp; omega
theorem flat_append (l k : List M) : flat (l ++ k) = flat l ++ flat k := by
  induction l with
  | nil => rfl
  | cons m l ih => simp only [List.cons_append, flat, ih, List.append_assoc]
theorem flat_one (m : M) : flat [m] = m.cells.toList := by simp [flat]
theorem flat_oneCell (l : List M) : ∀ u ∈ flat l, u.oneCell' = true := by
  induction l with
  | nil => intro u hu; simp [flat] at hu
  | cons m l ih =>
    intro u hu
    simp only [flat, List.mem_append] at hu
    rcases hu with hu | hu
    · simp at hu
      rcases hu with rfl | rfl | rfl | rfl | rfl | rfl | rfl | rfl <;> rfl
    · exact ih u hu
theorem flat_get (l : List M) (i : Nat) (m : M) (h : l[i]? = some m) (j : Nat) (hj : j < 8) : (flat l)[i * 8 + j]? = m.cells.toList[j]? := by
  induction l generalizing i with
  | nil => simp at h
  | cons x l ih =>
    have hx : x.cells.toList.length = 8 := by simp
    cases i with
    | zero =>
      simp at h
      subst h
      rw [flat, List.getElem?_append_left (by omega)]
      congr 1; omega
    | succ i =>
      simp at h
      rw [flat, List.getElem?_append_right (by omega), hx]
      rw [show (i + 1) * 8 + j - 8 = i * 8 + j by omega]
      exact ih i h
theorem flat_take (l : List M) (i : Nat) : (flat l).take (i * 8) = flat (l.take i) := by
  induction l generalizing i with
  | nil => simp [flat]
  | cons x l ih =>
    have hx : x.cells.toList.length = 8 := by simp
    cases i with
    | zero => simp [flat]
    | succ i =>
      rw [flat, List.take_succ_cons, flat, List.take_append, hx, show (i + 1) * 8 - 8 = i * 8 by omega, ih, List.take_of_length_le (by omega)]
theorem flat_drop (l : List M) (i : Nat) : (flat l).drop (i * 8) = flat (l.drop i) := by
  induction l generalizing i with
  | nil => simp [flat]
  | cons x l ih =>
    have hx : x.cells.toList.length = 8 := by simp
    cases i with
    | zero => simp
    | succ i =>
      rw [flat, List.drop_succ_cons, List.drop_append, hx, show (i + 1) * 8 - 8 = i * 8 by omega, ih, List.drop_of_length_le (by omega), List.nil_append]

/-- The message m lies at the place o of block g. -/
structure At (w : World) (g o : Nat) (m : M) : Prop where
  c0 : w.cell? ⟨g, o, none⟩ = some (.int .i64 m.kind)
  c1 : w.cell? ⟨g, o + 1, none⟩ = some (.int .i64 m.src)
  c2 : w.cell? ⟨g, o + 2, none⟩ = some (.int .i64 m.dst)
  c3 : w.cell? ⟨g, o + 3, none⟩ = some (.int .i64 m.epoch)
  c4 : w.cell? ⟨g, o + 4, none⟩ = some (.int .i64 m.seq)
  c5 : w.cell? ⟨g, o + 5, none⟩ = some (.int .i64 m.off)
  c6 : w.cell? ⟨g, o + 6, none⟩ = some (.int .i64 m.len)
  c7 : w.cell? ⟨g, o + 7, none⟩ = some (.string m.data)

/-- The cells of a message in a block of its own, one by one. -/
theorem Mat.all {w : World} {b : Nat} {m : M} (h : Mat w b m) : w.cell? ⟨b, 0, none⟩ = some (.int .i64 m.kind) ∧ w.cell? ⟨b, 1, none⟩ = some (.int .i64 m.src) ∧ w.cell? ⟨b, 2, none⟩ = some (.int .i64 m.dst) ∧ w.cell? ⟨b, 3, none⟩ = some (.int .i64 m.epoch) ∧ w.cell? ⟨b, 4, none⟩ = some (.int .i64 m.seq) ∧ w.cell? ⟨b, 5, none⟩ = some (.int .i64 m.off) ∧ w.cell? ⟨b, 6, none⟩ = some (.int .i64 m.len) ∧ w.cell? ⟨b, 7, none⟩ = some (.string m.data) :=
  ⟨h.1 0 (by omega), h.1 1 (by omega), h.1 2 (by omega), h.1 3 (by omega), h.1 4 (by omega), h.1 5 (by omega), h.1 6 (by omega), h.2⟩

/-- The slice v has the messages l, in a row of its own from block 'base' on. -/
def Owns (w : World) (base : Nat) (v : Value) (l : List M) : Prop := w.ownsRow base 31 8 v l.length (flat l)

theorem Owns.nil (w : World) (base : Nat) : Owns w base (.slice none 0 0) [] := World.ownsRow_nil _ _ _ _
theorem Owns.kept {w w' : World} {base : Nat} {v : Value} {l : List M} (h : Owns w base v l) (hb : ∀ g, v.ownBlock = some g → w'.heap[g]? = w.heap[g]?) : Owns w' base v l := by
  refine ⟨h.1, ?_⟩
  rcases h.2 with hn | ⟨g, cap, cur, rfl, hbs, hgg, rest⟩
  · exact .inl hn
  · exact .inr ⟨g, cap, cur, rfl, hbs, by rw [hb g rfl]; exact hgg, rest⟩
theorem Owns.lt {w : World} {base : Nat} {v : Value} {l : List M} (h : Owns w base v l) {g : Nat} (hg : v.ownBlock = some g) : base ≤ g ∧ g < w.heap.size := World.ownsRow.lt h g hg
theorem Owns.below {w w' : World} (hb : Below w.heap.size w w') {base : Nat} {v : Value} {l : List M} (h : Owns w base v l) : Owns w' base v l :=
  h.kept fun g hg => hb.block g (h.lt hg).2
theorem Owns.mono {w : World} {base base' : Nat} {v : Value} {l : List M} (h : Owns w base v l) (hb : base' ≤ base) : Owns w base' v l := by
  refine ⟨h.1, ?_⟩
  rcases h.2 with hn | ⟨g, cap, cur, rfl, hbs, rest⟩
  · exact .inl hn
  · exact .inr ⟨g, cap, cur, rfl, by omega, rest⟩
/-- What it looks like: nothing, or a row whose messages lie one behind the other. -/
theorem Owns.form {w : World} {base : Nat} {v : Value} {l : List M} (h : Owns w base v l) :
    (v = .slice none 0 0 ∧ l = []) ∨ ∃ g cap, v = .slice (some ⟨g, 0, none⟩) l.length cap ∧ base ≤ g ∧ g < w.heap.size ∧ l.length ≤ cap ∧ cap ≤ maxLen ∧ ∀ i m, l[i]? = some m → At w g (i * 8) m := by
  rcases h.2 with ⟨hv, h0⟩ | ⟨g, cap, cur, hv, hb, hg, hn, hm, hs, ht⟩
  · exact .inl ⟨hv, List.length_eq_zero_iff.1 h0⟩
  · refine .inr ⟨g, cap, hv, hb, (Array.getElem?_eq_some_iff.1 hg).1, hn, hm, fun i m hi => ?_⟩
    have hil : i < l.length := (List.getElem?_eq_some_iff.1 hi).1
    have hc : ∀ j, j < 8 → w.cell? ⟨g, i * 8 + j, none⟩ = m.cells.toList[j]? := fun j hj => by
      rw [cell_of_row w g (i * 8 + j) cur _ (0, 0) hg, ← flat_get l i m hi j hj, ← ht, List.getElem?_take, if_pos (by omega)]
      simp
    exact ⟨hc 0 (by omega), hc 1 (by omega), hc 2 (by omega), hc 3 (by omega), hc 4 (by omega), hc 5 (by omega), hc 6 (by omega), hc 7 (by omega)⟩
/-- The cells that lie there, for one who appends them. -/
theorem Owns.news {w : World} {base g n cap : Nat} {l : List M} (h : Owns w base (.slice (some ⟨g, 0, none⟩) n cap) l) : ∀ j u, (flat l)[j]? = some u → w.cell? ((⟨g, 0, none⟩ : Addr).add j) = some u :=
  World.ownsRow.cells h rfl

/-- A bag in block b: its messages l, in a row behind it (row: that row's block). -/
def Bg (w : World) (b : Nat) (row : Option Nat) (l : List M) : Prop :=
  ∃ s, w.cell? ⟨b, 0, none⟩ = some s ∧ w.frozen? ⟨b, 0, none⟩ = false ∧ Owns w (b + 1) s l ∧ s.ownBlock = row

/-- From w to w' only block b, the block 'row' and new ones have turned. -/
structure Fr (b : Nat) (row : Option Nat) (w w' : World) : Prop where
  os : w'.os = w.os
  tape : w'.tape = w.tape
  output : w'.output = w.output
  size : w.heap.size ≤ w'.heap.size
  block : ∀ k, k < w.heap.size → k ≠ b → some k ≠ row → w'.heap[k]? = w.heap[k]?
/-- The row is the old one, none, or a new block. -/
def RowOk (row row' : Option Nat) (w : World) : Prop := row' = row ∨ row' = none ∨ ∃ g, row' = some g ∧ w.heap.size ≤ g

theorem Bg.lt {w : World} {b : Nat} {row : Option Nat} {l : List M} (h : Bg w b row l) : b < w.heap.size := by
  obtain ⟨s, hs, _⟩ := h; exact cell_lt3 hs
theorem Bg.row_lt {w : World} {b g : Nat} {row : Option Nat} {l : List M} (h : Bg w b row l) (hg : row = some g) : b < g ∧ g < w.heap.size := by
  obtain ⟨s, hs, hf, ho, hr⟩ := h
  have := ho.lt (hr.trans hg); omega
theorem Bg.below {w w' : World} (hb : Below w.heap.size w w') {b : Nat} {row : Option Nat} {l : List M} (h : Bg w b row l) : Bg w' b row l := by
  have hl := h.lt
  obtain ⟨s, hs, hf, ho, hr⟩ := h
  exact ⟨s, by rw [hb.cell (p := ⟨b, 0, none⟩) hl]; exact hs, by rw [hb.frozen (p := ⟨b, 0, none⟩) hl]; exact hf, ho.below hb, hr⟩
theorem Fr.of_below {b : Nat} {row : Option Nat} {w w' : World} (h : Below w.heap.size w w') : Fr b row w w' := ⟨h.os, h.tape, h.output, h.size, fun k hk _ _ => h.block k hk⟩
theorem Fr.trans {b : Nat} {row row' : Option Nat} {w w1 w2 : World} (h : Fr b row w w1) (k : Fr b row' w1 w2) (hr : RowOk row row' w) : Fr b row w w2 := by
  refine ⟨k.os.trans h.os, k.tape.trans h.tape, k.output.trans h.output, Nat.le_trans h.size k.size, fun i hi hib hir => ?_⟩
  rw [k.block i (Nat.lt_of_lt_of_le hi h.size) hib ?_]
  · exact h.block i hi hib hir
  · rcases hr with rfl | rfl | ⟨g, rfl, hg⟩
    · exact hir
    · simp
    · intro e; injection e with e; omega
theorem Fr.then_below {b : Nat} {row : Option Nat} {w w1 w2 : World} (h : Fr b row w w1) (k : Below w1.heap.size w1 w2) : Fr b row w w2 :=
  h.trans (row' := row) (Fr.of_below k) (.inl rfl)
theorem RowOk.trans {r1 r2 r3 : Option Nat} {w w1 : World} (h : RowOk r1 r2 w) (hs : w.heap.size ≤ w1.heap.size) (k : RowOk r2 r3 w1) : RowOk r1 r3 w := by
  rcases k with rfl | rfl | ⟨g, rfl, hg⟩
  · exact h
  · exact .inr (.inl rfl)
  · exact .inr (.inr ⟨g, rfl, by omega⟩)
theorem RowOk.refl (r : Option Nat) (w : World) : RowOk r r w := .inl rfl
/-- Below block b nothing has turned, if the row lies behind b. -/
theorem Fr.below {w w' : World} {b : Nat} {row : Option Nat} (h : Fr b row w w') (hb : b ≤ w.heap.size) (hr : ∀ g, row = some g → b < g) : Below b w w' :=
  ⟨h.os, h.tape, h.output, h.size, fun k hk => h.block k (by omega) (by omega) (fun e => by have := hr k e.symm; omega)⟩
theorem Fr.belowB {w w' : World} {b B : Nat} {row : Option Nat} {l : List M} (h : Fr b row w w') (hb : Bg w b row l) (hB : B ≤ b) : Below B w w' :=
  (h.below (Nat.le_of_lt hb.lt) (fun _ hg => (hb.row_lt hg).1)).mono hB
/-- A bag is as it was, where only other blocks have turned. -/
theorem Bg.fr {w w' : World} {b c : Nat} {row rc : Option Nat} {l : List M} (h : Bg w b row l) (hf : Fr c rc w w') (h1 : b ≠ c) (h2 : some b ≠ rc) (h3 : ∀ g, row = some g → g ≠ c ∧ some g ≠ rc) : Bg w' b row l := by
  have hl := h.lt
  have hrl : ∀ g, row = some g → b < g ∧ g < w.heap.size := fun _ hg => h.row_lt hg
  obtain ⟨s, hs, hfz, ho, hr⟩ := h
  have hblk := hf.block b hl h1 h2
  refine ⟨s, ?_, ?_, ?_, hr⟩
  · rw [World.cell?_of_block (w := w) (a := ⟨b, 0, none⟩) hblk]; exact hs
  · rw [World.frozen?_of_block (w := w) (a := ⟨b, 0, none⟩) hblk]; exact hfz
  · refine ho.kept fun g hg => ?_
    obtain ⟨k1, k2⟩ := h3 g (hr ▸ hg)
    exact hf.block g (hrl g (hr ▸ hg)).2 k1 k2
/-- Two bags, each in blocks of its own. -/
def Two (w : World) (b1 : Nat) (r1 : Option Nat) (l1 : List M) (b2 : Nat) (r2 : Option Nat) (l2 : List M) : Prop :=
  Bg w b1 r1 l1 ∧ Bg w b2 r2 l2 ∧ b1 ≠ b2 ∧ r1 ≠ some b2 ∧ r2 ≠ some b1 ∧ ∀ g, r1 = some g → r2 ≠ some g
theorem Two.swap {w : World} {b1 b2 : Nat} {r1 r2 : Option Nat} {l1 l2 : List M} (h : Two w b1 r1 l1 b2 r2 l2) : Two w b2 r2 l2 b1 r1 l1 := by
  obtain ⟨h1, h2, h3, h4, h5, h6⟩ := h
  exact ⟨h2, h1, Ne.symm h3, h5, h4, fun g hg e => h6 g e hg⟩
theorem Two.below {w w' : World} {b1 b2 : Nat} {r1 r2 : Option Nat} {l1 l2 : List M} (h : Two w b1 r1 l1 b2 r2 l2) (hb : Below w.heap.size w w') : Two w' b1 r1 l1 b2 r2 l2 := by
  obtain ⟨h1, h2, h3⟩ := h
  exact ⟨h1.below hb, h2.below hb, h3⟩
/-- The first one turns. -/
theorem Two.step {w w' : World} {b1 b2 : Nat} {r1 r1' r2 : Option Nat} {l1 l1' l2 : List M} (h : Two w b1 r1 l1 b2 r2 l2) (hw : Bg w' b1 r1' l1') (hr : RowOk r1 r1' w) (hf : Fr b1 r1 w w') : Two w' b1 r1' l1' b2 r2 l2 := by
  obtain ⟨h1, h2, h3, h4, h5, h6⟩ := h
  have l1 := h1.lt
  have l2 := h2.lt
  have hl2 : ∀ g, r2 = some g → b2 < g ∧ g < w.heap.size := fun _ hg => h2.row_lt hg
  refine ⟨hw, h2.fr hf (Ne.symm h3) (Ne.symm h4) (fun g hg => ⟨fun e => h5 (by rw [hg, e]), fun e => h6 g e.symm hg⟩), h3, ?_, h5, ?_⟩
  · rcases hr with rfl | rfl | ⟨g, rfl, hg⟩
    · exact h4
    · simp
    · intro e; injection e with e; omega
  · intro g hg e
    rcases hr with rfl | rfl | ⟨g', rfl, hg'⟩
    · exact h6 g hg e
    · simp at hg
    · injection hg with hg; have := (hl2 g e).2; omega
/-- A slice beside a bag stays as it is while the bag turns. -/
theorem Owns.fr {w w' : World} {base c : Nat} {rc : Option Nat} {v : Value} {l : List M} (h : Owns w base v l) (hf : Fr c rc w w') (h3 : ∀ g, v.ownBlock = some g → g ≠ c ∧ some g ≠ rc) : Owns w' base v l :=
  h.kept fun g hg => hf.block g (h.lt hg).2 (h3 g hg).1 (h3 g hg).2
/-- The bag's field is stored anew. -/
theorem Bg.stored {w2 : World} {b : Nat} {s v : Value} {l : List M} (hc : w2.cell? ⟨b, 0, none⟩ = some s) (hf : w2.frozen? ⟨b, 0, none⟩ = false) (hown : Owns w2 (b + 1) v l) : Bg (w2.setCell ⟨b, 0, none⟩ v) b v.ownBlock l :=
  ⟨_, World.cell?_setCell_same _ _ _ hc, by rw [World.frozen?_setCell]; exact hf, ownsRow_setCell_below hown (Nat.lt_succ_self b) _, rfl⟩
theorem Fr.set {b : Nat} {row : Option Nat} {w w2 : World} {v : Value} (h : Fr b row w w2) : Fr b row w (w2.setCell ⟨b, 0, none⟩ v) :=
  ⟨h.os, h.tape, h.output, by simp [World.setCell]; exact h.size, fun k hk hkb hkr => by rw [Below.heap_setCell _ _ _ _ (by simpa using hkb)]; exact h.block k hk hkb hkr⟩
theorem Fr.grown {b : Nat} {row : Option Nat} {w w1 w2 : World} (h : Fr b row w w1) (hg : w1.grownBy w2 row) : Fr b row w w2 :=
  ⟨hg.os.trans h.os, hg.tape.trans h.tape, hg.output.trans h.output, Nat.le_trans h.size hg.size, fun k hk hkb hkr => (hg.block k (Nat.lt_of_lt_of_le hk h.size) hkr).trans (h.block k hk hkb hkr)⟩
theorem Fr.refl (b : Nat) (row : Option Nat) (w : World) : Fr b row w w := ⟨rfl, rfl, rfl, Nat.le_refl _, fun _ _ _ _ => rfl⟩

theorem infoMsg : (Try.prog.info? 31).map (fun i => (i.zero, i.size, i.bytes)) = some (some (.agg #[.int .i64 0, .int .i64 0, .int .i64 0, .int .i64 0, .int .i64 0, .int .i64 0, .int .i64 0, .string ⟨#[]⟩]), 8, 72) := by kernel_rfl
end Go.Proofs.Ythcoghgpdcnhlaa
