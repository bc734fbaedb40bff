/-
  Alarms: as values, as cells in a row; the document's order; what its calls answer and leave, as plain lists.
-/
import Derived.Test.YtcanagecdniiiaaProg
import Derived.WalkKit
import Derived.BigRegion
import Derived.Handy
import Derived.Lib.Hide
import Derived.IntWalk
import Derived.Deep.RegionWith
import Derived.Deep.RegionLaw
import Derived.Deep.RegionHeld3
import Derived.Deep.QuietTactic
import Derived.Deep.AppendLies
import Derived.BigQuiet
namespace Go.Proofs.Ytcanagecdniiiaa
open Go.RowKit

/-- An alarm. -/
structure Al where
  n : Int
  a : Int
  t : Int
theorem Al.ext' {x y : Al} (h1 : x.n = y.n) (h2 : x.a = y.a) (h3 : x.t = y.t) : x = y := by cases x; cases y; simp_all
instance : DecidableEq Al := fun x y => decidable_of_iff (x.n = y.n ∧ x.a = y.a ∧ x.t = y.t) ⟨fun ⟨h1, h2, h3⟩ => Al.ext' h1 h2 h3, fun h => by subst h; exact ⟨rfl, rfl, rfl⟩⟩
instance : Inhabited Al := ⟨⟨0, 0, 0⟩⟩
@[reducible] def Al.cells (x : Al) : Array Value := #[.int .i64 x.n, .int .i64 x.a, .int .i64 x.t]
@[reducible] def Al.val (x : Al) : Value := .agg #[.int .i64 x.n, .int .i64 x.a, .int .i64 x.t]
@[reducible] def Al.zero : Al := ⟨0, 0, 0⟩

/-! ### cells in a row -/
/-- The cells of alarms, one behind the other. -/
def flat : List Al → List Value
  | [] => []
  | x :: l => x.cells.toList ++ flat l
theorem flat_length (l : List Al) : (flat l).length = l.length * 3 := by
  induction l with
  | nil => rfl
  | cons m l ih => simp only [flat, List.length_append, ih, List.length_cons]; simp; omega
theorem flat_append (l k : List Al) : flat (l ++ k) = flat l ++ flat k := by
  induction l with
  | nil => rfl
  | cons m l ih => simp only [List.cons_append, flat, ih, List.append_assoc]
theorem flat_one (m : Al) : flat [m] = m.cells.toList := by simp [flat]
theorem flat_oneCell (l : List Al) : ∀ u ∈ flat l, u.oneCell' = true := by
  induction l with
  | nil => intro u hu; simp [flat] at hu
  | cons m l ih =>
    intro u hu
    simp only [flat, List.mem_append] at hu
    rcases hu with hu | hu
    · simp at hu
      rcases hu with rfl | rfl | rfl <;> rfl
    · exact ih u hu
theorem flat_get (l : List Al) (i : Nat) (m : Al) (h : l[i]? = some m) (j : Nat) (hj : j < 3) : (flat l)[i * 3 + j]? = m.cells.toList[j]? := by
  induction l generalizing i with
  | nil => simp at h
  | cons x l ih =>
    have hx : x.cells.toList.length = 3 := by simp
    cases i with
    | zero =>
      simp at h
      subst h
      rw [flat, List.getElem?_append_left (by omega)]
      congr 1; omega
    | succ i =>
      simp at h
      rw [flat, List.getElem?_append_right (by omega), hx]
      rw [show (i + 1) * 3 + j - 3 = i * 3 + j by omega]
      exact ih i h

/-- The alarm m lies at the place o of block g. -/
structure At (w : World) (g o : Nat) (m : Al) : Prop where
  c0 : w.cell? ⟨g, o, none⟩ = some (.int .i64 m.n)
  c1 : w.cell? ⟨g, o + 1, none⟩ = some (.int .i64 m.a)
  c2 : w.cell? ⟨g, o + 2, none⟩ = some (.int .i64 m.t)

/-- The slice v has the alarms l, in a row of its own from block 'base' on; e: their type. -/
def Owns (e : TypeId) (w : World) (base : Nat) (v : Value) (l : List Al) : Prop := w.ownsRow base e 3 v l.length (flat l)

theorem Owns.nil (e : TypeId) (w : World) (base : Nat) : Owns e w base (.slice none 0 0) [] := World.ownsRow_nil _ _ _ _
theorem Owns.kept {e : TypeId} {w w' : World} {base : Nat} {v : Value} {l : List Al} (h : Owns e w base v l) (hb : ∀ g, v.ownBlock = some g → w'.heap[g]? = w.heap[g]?) : Owns e w' base v l := by
  refine ⟨h.1, ?_⟩
  rcases h.2 with hn | ⟨g, cap, cur, rfl, hbs, hgg, rest⟩
  · exact .inl hn
  · exact .inr ⟨g, cap, cur, rfl, hbs, by rw [hb g rfl]; exact hgg, rest⟩
theorem Owns.lt {e : TypeId} {w : World} {base : Nat} {v : Value} {l : List Al} (h : Owns e w base v l) {g : Nat} (hg : v.ownBlock = some g) : base ≤ g ∧ g < w.heap.size := World.ownsRow.lt h g hg
theorem Owns.below {e : TypeId} {w w' : World} (hb : Below w.heap.size w w') {base : Nat} {v : Value} {l : List Al} (h : Owns e w base v l) : Owns e w' base v l :=
  h.kept fun g hg => hb.block g (h.lt hg).2
theorem Owns.grown {e : TypeId} {w w' : World} {row : Option Nat} (hb : w.grownBy w' row) {base : Nat} {v : Value} {l : List Al} (h : Owns e w base v l) (hne : ∀ g, v.ownBlock = some g → some g ≠ row) : Owns e w' base v l :=
  h.kept fun g hg => hb.block g (h.lt hg).2 (hne g hg)
theorem Owns.mono {e : TypeId} {w : World} {base base' : Nat} {v : Value} {l : List Al} (h : Owns e w base v l) (hb : base' ≤ base) : Owns e w base' v l := by
  refine ⟨h.1, ?_⟩
  rcases h.2 with hn | ⟨g, cap, cur, rfl, hbs, rest⟩
  · exact .inl hn
  · exact .inr ⟨g, cap, cur, rfl, by omega, rest⟩
/-- What it looks like: nothing, or a row whose alarms lie one behind the other. -/
theorem Owns.form {e : TypeId} {w : World} {base : Nat} {v : Value} {l : List Al} (h : Owns e w base v l) :
    (v = .slice none 0 0 ∧ l = []) ∨ ∃ g cap, v = .slice (some ⟨g, 0, none⟩) l.length cap ∧ base ≤ g ∧ g < w.heap.size ∧ l.length ≤ cap ∧ cap ≤ maxLen ∧ ∀ i m, l[i]? = some m → At w g (i * 3) m := by
  rcases h.2 with ⟨hv, h0⟩ | ⟨g, cap, cur, hv, hb, hg, hn, hm, hs, ht⟩
  · exact .inl ⟨hv, List.length_eq_zero_iff.1 h0⟩
  · refine .inr ⟨g, cap, hv, hb, (Array.getElem?_eq_some_iff.1 hg).1, hn, hm, fun i m hi => ?_⟩
    have hil : i < l.length := (List.getElem?_eq_some_iff.1 hi).1
    have hc : ∀ j, j < 3 → w.cell? ⟨g, i * 3 + j, none⟩ = m.cells.toList[j]? := fun j hj => by
      rw [cell_of_row w g (i * 3 + j) cur _ (0, 0) hg, ← flat_get l i m hi j hj, ← ht, List.getElem?_take, if_pos (by omega)]
      simp
    exact ⟨hc 0 (by omega), hc 1 (by omega), hc 2 (by omega)⟩
theorem Owns.shape {e : TypeId} {w : World} {base : Nat} {v : Value} {l : List Al} (h : Owns e w base v l) : ∃ A c, v = .slice A l.length c := by
  rcases h.form with ⟨rfl, rfl⟩ | ⟨g, cap, rfl, -⟩
  · exact ⟨none, 0, rfl⟩
  · exact ⟨_, cap, rfl⟩
/-- The cells that lie there, for one who appends them. -/
theorem Owns.news {e : TypeId} {w : World} {base g n cap : Nat} {l : List Al} (h : Owns e w base (.slice (some ⟨g, 0, none⟩) n cap) l) : ∀ j u, (flat l)[j]? = some u → w.cell? ((⟨g, 0, none⟩ : Addr).add j) = some u :=
  World.ownsRow.cells h rfl
/-- An empty slice that is not nil. -/
theorem Owns.lit {e : TypeId} {w : World} {base : Nat} (hb : base ≤ w.heap.size) : Owns e (w.alloc (.cells #[] e)) base (.slice (some ⟨w.heap.size, 0, none⟩) 0 0) [] :=
  World.ownsRow_lit (base := base) (e := e) (size := 3) w #[] 0 hb (by simp) rfl

/-- The cells of an alarm that is to be appended: behind one more block, or behind none. -/
theorem news1 (w : World) (y : Al) (e : TypeId) : ∀ j u, (flat [y])[j]? = some u → (w.alloc (.cells y.cells e)).cell? ((⟨w.heap.size, 0, none⟩ : Addr).add j) = some u := fun j u hu =>
  World.news_of_block (cs := y.cells) (t := e) (fr := (0, 0)) (heap_alloc_new w _) j u (by rw [flat_one] at hu; exact hu)
theorem news2 (w : World) (o : Obj) (y : Al) (e : TypeId) : ∀ j u, (flat [y])[j]? = some u → ((w.alloc o).alloc (.cells y.cells e)).cell? ((⟨w.heap.size + 1, 0, none⟩ : Addr).add j) = some u := fun j u hu => by
  have := news1 (w.alloc o) y e j u hu
  rwa [World.size_alloc] at this
theorem news3 (w : World) (o o' : Obj) (y : Al) (e : TypeId) : ∀ j u, (flat [y])[j]? = some u → (((w.alloc o).alloc o').alloc (.cells y.cells e)).cell? ((⟨w.heap.size + 1 + 1, 0, none⟩ : Addr).add j) = some u := fun j u hu => by
  have := news2 (w.alloc o) o' y e j u hu
  rwa [World.size_alloc] at this
/-- What an append leaves, as a list. -/
theorem Owns.snoc {e : TypeId} {w : World} {base g cap : Nat} {l : List Al} {y : Al} (h : w.ownsRow base e 3 (.slice (some ⟨g, 0, none⟩) (l.length + 1) cap) (l.length + 1) (flat l ++ flat [y])) : Owns e w base (.slice (some ⟨g, 0, none⟩) (l.length + 1) cap) (l ++ [y]) := by
  unfold Owns; rw [flat_append]; simpa using h

theorem Owns.lit2 {e : TypeId} (w : World) (base : Nat) (o : Obj) (hb : base ≤ w.heap.size + 1) : Owns e ((w.alloc o).alloc (.cells #[] e)) base (.slice (some ⟨w.heap.size + 1, 0, none⟩) 0 0) [] := by
  have := Owns.lit (e := e) (w := w.alloc o) (base := base) (by simp; omega)
  rwa [World.size_alloc] at this

theorem infoP : (Try.prog.info? 31).map (fun i => (i.zero, i.size, i.bytes)) = some (some (.agg #[.int .i64 0, .int .i64 0, .int .i64 0]), 3, 24) := by kernel_rfl
theorem infoR : (Try.prog.info? 40).map (fun i => (i.zero, i.size, i.bytes)) = some (some (.agg #[.int .i64 0, .int .i64 0, .int .i64 0]), 3, 24) := by kernel_rfl

/-! ### worlds -/
theorem below_drewN {B : Nat} {a w : World} (h : Below B a w) (n : Nat) : Below B a (w.drewN n) := ⟨h.os, h.tape, h.output, h.size, h.block⟩
theorem grown_of_below {w w' : World} (h : Below w.heap.size w w') (row : Option Nat) : w.grownBy w' row := ⟨h.os, h.tape, h.output, h.size, fun k hk _ => h.block k hk⟩
theorem grown_refl (w : World) (row : Option Nat) : w.grownBy w row := grown_of_below (Below.refl _ _) row
theorem grown_trans {w w1 w2 : World} {row : Option Nat} (h : w.grownBy w1 row) (k : w1.grownBy w2 row) : w.grownBy w2 row :=
  ⟨k.os.trans h.os, k.tape.trans h.tape, k.output.trans h.output, Nat.le_trans h.size k.size, fun i hi hne => (k.block i (Nat.lt_of_lt_of_le hi h.size) hne).trans (h.block i hi hne)⟩
theorem grown_then_below {w w1 w2 : World} {row : Option Nat} (h : w.grownBy w1 row) (k : Below w1.heap.size w1 w2) : w.grownBy w2 row := grown_trans h (grown_of_below k row)
theorem below_then_grown {w w1 w2 : World} {row : Option Nat} (h : Below w.heap.size w w1) (k : w1.grownBy w2 row) : w.grownBy w2 row := grown_trans (grown_of_below h row) k
theorem below_grown {B : Nat} {w0 w w' : World} {row : Option Nat} (h : Below B w0 w) (hg : w.grownBy w' row) (hB : B ≤ w.heap.size) (hr : ∀ k, row = some k → B ≤ k) : Below B w0 w' :=
  ⟨hg.os.trans h.os, hg.tape.trans h.tape, hg.output.trans h.output, Nat.le_trans h.size hg.size, fun k hk => (hg.block k (by omega) (fun e => by have := hr k e.symm; omega)).trans (h.block k hk)⟩
end Go.Proofs.Ytcanagecdniiiaa
