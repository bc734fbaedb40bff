/-
  A map, and the document's own, as cells; ranges in rows of memory; what turns of memory while one of them is called.
-/
import Derived.Test.YtlffgfkcgldekaaLists
import Derived.WalkKit
import Derived.BigRegion
import Derived.Handy
import Derived.Lib.Hide
import Derived.IntWalk
import Derived.Deep.RegionWith
import Derived.Deep.RegionLaw
import Derived.Deep.RegionHeld3
import Derived.Deep.QuietTactic
import Derived.Deep.AppendLies
import Derived.Deep.OwnRows
import Derived.Deep.MidRow
import Derived.Deep.Upon
import Derived.Laws.CopyOwn
import Derived.BigQuiet
import Derived.WalkSmall
namespace Go.Proofs.Ytlffgfkcgldekaa
open Go.RowKit

/-! ### what turns -/
/-- From w to w' nothing has turned but the blocks F, and new ones. -/
structure Keeps (F : Nat → Prop) (w w' : World) : Prop where
  os : w'.os = w.os
  tape : w'.tape = w.tape
  output : w'.output = w.output
  size : w.heap.size ≤ w'.heap.size
  block : ∀ k, k < w.heap.size → ¬ F k → w'.heap[k]? = w.heap[k]?
theorem Keeps.of_below {F : Nat → Prop} {w w' : World} (h : Below w.heap.size w w') : Keeps F w w' := ⟨h.os, h.tape, h.output, h.size, fun k hk _ => h.block k hk⟩
theorem Keeps.refl (F : Nat → Prop) (w : World) : Keeps F w w := Keeps.of_below (Below.refl _ _)
theorem Keeps.trans {F F' : Nat → Prop} {w w1 w2 : World} (h : Keeps F w w1) (k : Keeps F' w1 w2) (hF : ∀ k, F' k → F k ∨ w.heap.size ≤ k) : Keeps F w w2 :=
  ⟨k.os.trans h.os, k.tape.trans h.tape, k.output.trans h.output, Nat.le_trans h.size k.size, fun i hi hn => (k.block i (Nat.lt_of_lt_of_le hi h.size) (fun hf => by rcases hF i hf with h1 | h1 ; (exact hn h1); omega)).trans (h.block i hi hn)⟩
theorem Keeps.then_below {F : Nat → Prop} {w w1 w2 : World} (h : Keeps F w w1) (k : Below w1.heap.size w1 w2) : Keeps F w w2 := h.trans (F' := F) (Keeps.of_below k) (fun _ hf => .inl hf)
theorem Keeps.below_then {F : Nat → Prop} {w w1 w2 : World} (h : Below w.heap.size w w1) (k : Keeps F w1 w2) : Keeps F w w2 := (Keeps.of_below (F := F) h).trans k (fun _ hf => .inl hf)
theorem Keeps.set {F : Nat → Prop} {w w1 : World} (h : Keeps F w w1) {b o : Nat} (hb : F b ∨ w.heap.size ≤ b) (v : Value) : Keeps F w (w1.setCell ⟨b, o, none⟩ v) :=
  ⟨h.os, h.tape, h.output, by simp [World.setCell]; exact h.size, fun k hk hn => by rw [Below.heap_setCell _ _ _ _ (fun e => by subst e; rcases hb with hb | hb ; (exact hn hb); omega)]; exact h.block k hk hn⟩
theorem Keeps.grown {F : Nat → Prop} {w w1 w2 : World} {row : Option Nat} (h : Keeps F w w1) (k : w1.grownBy w2 row) (hr : ∀ g, row = some g → F g ∨ w.heap.size ≤ g) : Keeps F w w2 :=
  ⟨k.os.trans h.os, k.tape.trans h.tape, k.output.trans h.output, Nat.le_trans h.size k.size, fun i hi hn => (k.block i (Nat.lt_of_lt_of_le hi h.size) (fun e => by rcases hr i e.symm with h1 | h1 ; (exact hn h1); omega)).trans (h.block i hi hn)⟩
theorem Keeps.below {F : Nat → Prop} {B : Nat} {w0 w w' : World} (h : Keeps F w w') (hb : Below B w0 w) (hB : B ≤ w.heap.size) (hF : ∀ k, F k → B ≤ k) : Below B w0 w' :=
  ⟨h.os.trans hb.os, h.tape.trans hb.tape, h.output.trans hb.output, Nat.le_trans hb.size h.size, fun k hk => (h.block k (by omega) (fun hf => by have := hF k hf; omega)).trans (hb.block k hk)⟩
theorem Keeps.cell {F : Nat → Prop} {w w' : World} (h : Keeps F w w') {a : Addr} {v : Value} (hc : w.cell? a = some v) (hn : ¬ F a.block) : w'.cell? a = some v := by
  rw [World.cell?_of_block (h.block a.block (World.block_lt_of_cell? w _ hc) hn)]; exact hc
/-- What a call leaves: the thing in its new blocks, all else as it was. -/
def Goes (F : Nat → Prop) (w w' : World) (Q : (Nat → Prop) → Prop) : Prop := ∃ F', Q F' ∧ (∀ k, F' k → F k ∨ w.heap.size ≤ k) ∧ Keeps F w w'
theorem Goes.trans {F : Nat → Prop} {w w1 w2 : World} {F1 : Nat → Prop} {Q : (Nat → Prop) → Prop} (h1 : ∀ k, F1 k → F k ∨ w.heap.size ≤ k) (h2 : Keeps F w w1) (h3 : Goes F1 w1 w2 Q) : Goes F w w2 Q := by
  obtain ⟨F2, hq, h4, h5⟩ := h3
  refine ⟨F2, hq, fun k hk => ?_, h2.trans h5 h1⟩
  rcases h4 k hk with h | h
  · exact h1 k h
  · exact .inr (Nat.le_trans h2.size h)
theorem Goes.same {F : Nat → Prop} {w w' : World} {Q : (Nat → Prop) → Prop} (h : Q F) (hk : Keeps F w w') : Goes F w w' Q := ⟨F, h, fun _ h => .inl h, hk⟩
theorem below_drewN {B : Nat} {a w : World} (h : Below B a w) (n : Nat) : Below B a (w.drewN n) := ⟨h.os, h.tape, h.output, h.size, h.block⟩
theorem grown_of_below {w w' : World} (h : Below w.heap.size w w') (row : Option Nat) : w.grownBy w' row := ⟨h.os, h.tape, h.output, h.size, fun k hk _ => h.block k hk⟩
theorem below_grown {B : Nat} {w0 w w' : World} {row : Option Nat} (h : Below B w0 w) (hg : w.grownBy w' row) (hB : B ≤ w.heap.size) (hr : ∀ k, row = some k → B ≤ k) : Below B w0 w' :=
  ⟨hg.os.trans h.os, hg.tape.trans h.tape, hg.output.trans h.output, Nat.le_trans h.size hg.size, fun k hk => (hg.block k (by omega) (fun e => by have := hr k e.symm; omega)).trans (h.block k hk)⟩

/-! ### ranges in rows -/
@[reducible] def Rg.cells (x : Rg) : Array Value := #[.int .i64 x.f, .int .i64 x.t]
@[reducible] def Rg.val (x : Rg) : Value := .agg #[.int .i64 x.f, .int .i64 x.t]
def flat : List Rg → List Value
  | [] => []
  | x :: l => x.cells.toList ++ flat l
theorem flat_length (l : List Rg) : (flat l).length = l.length * 2 := by
  induction l with
  | nil => rfl
  | cons m l ih => simp only [flat, List.length_append, ih, List.length_cons]; simp; omega
theorem flat_append (l k : List Rg) : flat (l ++ k) = flat l ++ flat k := by
  induction l with
  | nil => rfl
  | cons m l ih => simp only [List.cons_append, flat, ih, List.append_assoc]
theorem flat_one (m : Rg) : flat [m] = m.cells.toList := by simp [flat]
theorem flat_oneCell (l : List Rg) : ∀ u ∈ flat l, u.oneCell' = true := by
  induction l with
  | nil => intro u hu; simp [flat] at hu
  | cons m l ih =>
    intro u hu
    simp only [flat, List.mem_append] at hu
    rcases hu with hu | hu
    · simp at hu
      rcases hu with rfl | rfl <;> rfl
    · exact ih u hu
theorem flat_get (l : List Rg) (i : Nat) (m : Rg) (h : l[i]? = some m) (j : Nat) (hj : j < 2) : (flat l)[i * 2 + j]? = m.cells.toList[j]? := by
  induction l generalizing i with
  | nil => simp at h
  | cons x l ih =>
    have hx : x.cells.toList.length = 2 := by simp
    cases i with
    | zero =>
      simp at h
      subst h
      rw [flat, List.getElem?_append_left (by omega)]
      congr 1; omega
    | succ i =>
      simp at h
      rw [flat, List.getElem?_append_right (by omega), hx]
      rw [show (i + 1) * 2 + j - 2 = i * 2 + j by omega]
      exact ih i h
/-- The cell j of a row of ranges. -/
theorem flat_cell {l : List Rg} {j : Nat} {u : Value} (h : (flat l)[j]? = some u) : ∃ m, l[j / 2]? = some m ∧ m.cells.toList[j % 2]? = some u := by
  have hlt := (List.getElem?_eq_some_iff.1 h).1
  rw [flat_length] at hlt
  obtain ⟨m, hm⟩ : ∃ m, l[j / 2]? = some m := ⟨_, List.getElem?_eq_getElem (by omega)⟩
  refine ⟨m, hm, ?_⟩
  rw [← flat_get l (j / 2) m hm (j % 2) (Nat.mod_lt _ (by omega)), ← h]
  congr 1; omega

/-- The range m lies at the place o of block g. -/
structure At (w : World) (g o : Nat) (m : Rg) : Prop where
  c0 : w.cell? ⟨g, o, none⟩ = some (.int .i64 m.f)
  c1 : w.cell? ⟨g, o + 1, none⟩ = some (.int .i64 m.t)
/-- The ranges l lie in block g, one behind the other; there is place for cap of them. -/
structure Lst (w : World) (g cap : Nat) (l : List Rg) : Prop where
  lt : g < w.heap.size
  le : l.length ≤ cap
  max : cap ≤ maxLen
  at_ : ∀ i m, l[i]? = some m → At w g (i * 2) m
theorem Lst.block {w w' : World} {g cap : Nat} {l : List Rg} (h : Lst w g cap l) (hb : w'.heap[g]? = w.heap[g]?) (hs : w.heap.size ≤ w'.heap.size) : Lst w' g cap l :=
  ⟨Nat.lt_of_lt_of_le h.lt hs, h.le, h.max, fun i m hi => ⟨by rw [World.cell?_of_block (w := w) (a := ⟨g, i * 2, none⟩) hb]; exact (h.at_ i m hi).c0, by rw [World.cell?_of_block (w := w) (a := ⟨g, i * 2 + 1, none⟩) hb]; exact (h.at_ i m hi).c1⟩⟩
theorem Lst.below {w w' : World} {g cap : Nat} {l : List Rg} (h : Lst w g cap l) (hb : Below w.heap.size w w') : Lst w' g cap l := h.block (hb.block g h.lt) hb.size
theorem Lst.keeps {F : Nat → Prop} {w w' : World} {g cap : Nat} {l : List Rg} (h : Lst w g cap l) (hk : Keeps F w w') (hn : ¬ F g) : Lst w' g cap l := h.block (hk.block g h.lt hn) hk.size
theorem Lst.news {w : World} {g cap : Nat} {l : List Rg} (h : Lst w g cap l) (k : Nat) : ∀ j u, (flat (l.drop k))[j]? = some u → w.cell? ((⟨g, k * 2, none⟩ : Addr).add j) = some u := by
  intro j u hu
  obtain ⟨m, hm, hc⟩ := flat_cell hu
  rw [List.getElem?_drop] at hm
  obtain ⟨a, b⟩ := h.at_ _ m hm
  rw [Go.WideShapes.add_plain, show k * 2 + j = (k + j / 2) * 2 + j % 2 by omega]
  rcases (show j % 2 = 0 ∨ j % 2 = 1 by omega) with e | e <;> rw [e] at hc ⊢ <;> simp at hc <;> subst hc
  · exact a
  · exact b
/-- The slice v has the ranges l, in a row of its own from block 'base' on. -/
def Owns (w : World) (base : Nat) (v : Value) (l : List Rg) : Prop := w.ownsRow base 30 2 v l.length (flat l)
theorem owns_kept {w w' : World} {base e size n : Nat} {v : Value} {xs : List Value} (h : w.ownsRow base e size v n xs) (hb : ∀ g, v.ownBlock = some g → w'.heap[g]? = w.heap[g]?) : w'.ownsRow base e size v n xs := by
  refine ⟨h.1, ?_⟩
  rcases h.2 with hn | ⟨g, cap, cur, rfl, hbs, hgg, rest⟩
  · exact .inl hn
  · exact .inr ⟨g, cap, cur, rfl, hbs, by rw [hb g rfl]; exact hgg, rest⟩
theorem Owns.lt {w : World} {base : Nat} {v : Value} {l : List Rg} (h : Owns w base v l) {g : Nat} (hg : v.ownBlock = some g) : base ≤ g ∧ g < w.heap.size := World.ownsRow.lt h g hg
theorem Owns.keeps {F : Nat → Prop} {w w' : World} {base : Nat} {v : Value} {l : List Rg} (h : Owns w base v l) (hk : Keeps F w w') (hn : ∀ g, v.ownBlock = some g → ¬ F g) : Owns w' base v l := owns_kept h fun g hg => hk.block g (h.lt hg).2 (hn g hg)
theorem Owns.below {w w' : World} (hb : Below w.heap.size w w') {base : Nat} {v : Value} {l : List Rg} (h : Owns w base v l) : Owns w' base v l := owns_kept h fun g hg => hb.block g (h.lt hg).2
/-- What it looks like. -/
theorem Owns.form {w : World} {base : Nat} {v : Value} {l : List Rg} (h : Owns w base v l) :
    (v = .slice none 0 0 ∧ l = []) ∨ ∃ g cap, v = .slice (some ⟨g, 0, none⟩) l.length cap ∧ base ≤ g ∧ Lst w g cap l := by
  rcases h.2 with ⟨hv, h0⟩ | ⟨g, cap, cur, hv, hb, hg, hn, hm, hs, ht⟩
  · exact .inl ⟨hv, List.length_eq_zero_iff.1 h0⟩
  · refine .inr ⟨g, cap, hv, hb, (Array.getElem?_eq_some_iff.1 hg).1, hn, hm, fun i m hi => ?_⟩
    have hil : i < l.length := (List.getElem?_eq_some_iff.1 hi).1
    have hc : ∀ j, j < 2 → w.cell? ⟨g, i * 2 + j, none⟩ = m.cells.toList[j]? := fun j hj => by
      rw [cell_of_row w g (i * 2 + j) cur _ (0, 0) hg, ← flat_get l i m hi j hj, ← ht, List.getElem?_take, if_pos (by omega)]
      simp
    exact ⟨hc 0 (by omega), hc 1 (by omega)⟩
theorem Owns.lit {w : World} {base : Nat} (hb : base ≤ w.heap.size) : Owns (w.alloc (.cells #[] 30)) base (.slice (some ⟨w.heap.size, 0, none⟩) 0 0) [] :=
  World.ownsRow_lit (base := base) (e := 30) (size := 2) w #[] 0 hb (by simp) rfl

theorem info_range : (Try.prog.info? 30).map (fun i => (i.zero, i.size, i.bytes)) = some (some (.agg #[.int .i64 0, .int .i64 0]), 2, 16) := by kernel_rfl

/-! ### the map -/
@[reducible] def pcells (n : Nat) (g m cap : Nat) : Array Value := #[.int .i64 (n : Int), .slice (some ⟨g, 0, none⟩) m cap]
structure PBv (w : World) (b : Nat) (s : St) (g cap : Nat) : Prop where
  row : w.heap[b]? = some (.cells (pcells s.n g (runs s).length cap) 47 (0, 0))
  ne : b ≠ g
  l : Lst w g cap (runs s)
/-- A map s in block b; F: the blocks that it has. -/
def PB (w : World) (b : Nat) (s : St) (F : Nat → Prop) : Prop := ∃ g cap, PBv w b s g cap ∧ ∀ k, F k ↔ (k = b ∨ k = g)
theorem PBv.lt {w : World} {b : Nat} {s : St} {g cap : Nat} (h : PBv w b s g cap) : b < w.heap.size := (Array.getElem?_eq_some_iff.1 h.row).1
theorem PBv.cells {w : World} {b : Nat} {s : St} {g cap : Nat} (h : PBv w b s g cap) : w.cell? ⟨b, 0, none⟩ = some (.int .i64 (s.n : Int)) ∧ w.cell? ⟨b, 1, none⟩ = some (.slice (some ⟨g, 0, none⟩) (runs s).length cap) ∧ w.frozen? ⟨b, 1, none⟩ = false := by
  have hc : ∀ j, w.cell? ⟨b, j, none⟩ = (pcells s.n g (runs s).length cap)[j]? := fun j => cell_of_row w b j _ _ _ h.row
  refine ⟨hc 0, hc 1, ?_⟩
  unfold World.frozen?; simp only [h.row]; simp
theorem PBv.kept {w w' : World} {b : Nat} {s : St} {g cap : Nat} (h : PBv w b s g cap) (hb : ∀ k, k = b ∨ k = g → w'.heap[k]? = w.heap[k]?) (hs : w.heap.size ≤ w'.heap.size) : PBv w' b s g cap :=
  ⟨by rw [hb b (.inl rfl)]; exact h.row, h.ne, h.l.block (hb g (.inr rfl)) hs⟩
theorem PBv.below {w w' : World} {b : Nat} {s : St} {g cap : Nat} (h : PBv w b s g cap) (hb : Below w.heap.size w w') : PBv w' b s g cap :=
  h.kept (fun k hk => hb.block k (by rcases hk with rfl | rfl; (exact h.lt); (exact h.l.lt))) hb.size
theorem PB.lt {w : World} {b : Nat} {s : St} {F : Nat → Prop} (h : PB w b s F) : ∀ k, F k → k < w.heap.size := fun k hk => by
  obtain ⟨g, cap, h1, h2⟩ := h
  rcases (h2 k).1 hk with rfl | rfl
  · exact h1.lt
  · exact h1.l.lt
theorem PB.mem {w : World} {b : Nat} {s : St} {F : Nat → Prop} (h : PB w b s F) : F b := by
  obtain ⟨g, cap, h1, h2⟩ := h; exact (h2 b).2 (.inl rfl)
theorem PB.keeps {w w' : World} {b : Nat} {s : St} {F G : Nat → Prop} (h : PB w b s F) (hk : Keeps G w w') (hd : ∀ k, F k → ¬ G k) : PB w' b s F := by
  have hl := h.lt
  obtain ⟨g, cap, h1, h2⟩ := h
  exact ⟨g, cap, h1.kept (fun k hk' => hk.block k (hl k ((h2 k).2 hk')) (hd k ((h2 k).2 hk'))) hk.size, h2⟩
theorem PB.below {w w' : World} {b : Nat} {s : St} {F : Nat → Prop} (h : PB w b s F) (hb : Below w.heap.size w w') : PB w' b s F := h.keeps (Keeps.of_below (F := fun _ => False) hb) (fun _ _ h => h)
theorem PBv.pb {w : World} {b : Nat} {s : St} {g cap : Nat} (h : PBv w b s g cap) : PB w b s (fun k => k = b ∨ k = g) := ⟨g, cap, h, fun _ => Iff.rfl⟩

/-! ### the document's own -/
structure RBv (w : World) (b : Nat) (s : St) (g : Nat) : Prop where
  row : w.heap[b]? = some (.cells #[.slice (some ⟨g, 0, none⟩) s.n s.n] 50 (0, 0))
  ne : b ≠ g
  bits : w.rowIs g 4 s.n (fun o => .bool (s.p (o : Int)))
def RB (w : World) (b : Nat) (s : St) (F : Nat → Prop) : Prop := ∃ g, RBv w b s g ∧ ∀ k, F k ↔ (k = b ∨ k = g)
theorem RBv.lt {w : World} {b : Nat} {s : St} {g : Nat} (h : RBv w b s g) : b < w.heap.size := (Array.getElem?_eq_some_iff.1 h.row).1
theorem RBv.cell {w : World} {b : Nat} {s : St} {g : Nat} (h : RBv w b s g) : w.cell? ⟨b, 0, none⟩ = some (.slice (some ⟨g, 0, none⟩) s.n s.n) := cell_of_row w b 0 _ _ _ h.row
theorem RBv.kept {w w' : World} {b : Nat} {s : St} {g : Nat} (h : RBv w b s g) (hb : ∀ k, k = b ∨ k = g → w'.heap[k]? = w.heap[k]?) : RBv w' b s g :=
  ⟨by rw [hb b (.inl rfl)]; exact h.row, h.ne, h.bits.of_block (hb g (.inr rfl))⟩
theorem RBv.below {w w' : World} {b : Nat} {s : St} {g : Nat} (h : RBv w b s g) (hb : Below w.heap.size w w') : RBv w' b s g :=
  h.kept (fun k hk => hb.block k (by rcases hk with rfl | rfl; (exact h.lt); (exact h.bits.lt)))
theorem RB.lt {w : World} {b : Nat} {s : St} {F : Nat → Prop} (h : RB w b s F) : ∀ k, F k → k < w.heap.size := fun k hk => by
  obtain ⟨g, h1, h2⟩ := h
  rcases (h2 k).1 hk with rfl | rfl
  · exact h1.lt
  · exact h1.bits.lt
theorem RB.mem {w : World} {b : Nat} {s : St} {F : Nat → Prop} (h : RB w b s F) : F b := by
  obtain ⟨g, h1, h2⟩ := h; exact (h2 b).2 (.inl rfl)
theorem RB.keeps {w w' : World} {b : Nat} {s : St} {F G : Nat → Prop} (h : RB w b s F) (hk : Keeps G w w') (hd : ∀ k, F k → ¬ G k) : RB w' b s F := by
  have hl := h.lt
  obtain ⟨g, h1, h2⟩ := h
  exact ⟨g, h1.kept fun k hk' => hk.block k (hl k ((h2 k).2 hk')) (hd k ((h2 k).2 hk')), h2⟩
theorem RB.below {w w' : World} {b : Nat} {s : St} {F : Nat → Prop} (h : RB w b s F) (hb : Below w.heap.size w w') : RB w' b s F := h.keeps (Keeps.of_below (F := fun _ => False) hb) (fun _ _ h => h)
theorem RBv.rb {w : World} {b : Nat} {s : St} {g : Nat} (h : RBv w b s g) : RB w b s (fun k => k = b ∨ k = g) := ⟨g, h, fun _ => Iff.rfl⟩
end Go.Proofs.Ytlffgfkcgldekaa
