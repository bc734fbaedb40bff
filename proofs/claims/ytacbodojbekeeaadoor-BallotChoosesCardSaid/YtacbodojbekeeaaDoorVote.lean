/-
  Votes: as values, as cells in a row, as all that a block has; when two are the same.
-/
import Derived.Test.YtacbodojbekeeaaDoorOpened
import Derived.Test.YtacbodojbekeeaaDoorRrtext
import Derived.Laws.Tables
import Derived.Laws.CopyOwn
import Derived.Laws.StructEq
import Derived.KernelRfl
import Derived.IntWalk
import Derived.Deep.RegionWith
import Derived.Deep.RegionLaw
import Derived.Deep.RegionHeld3
import Derived.Deep.QuietTactic
import Derived.Deep.AppendLies
import Derived.BigQuiet
namespace Go.Proofs.YtacbodojbekeeaaDoor
open Go.RowKit

/-- A vote: its slot, its ballot, its value. -/
structure V where
  s : Int
  b : Int
  x : ByteArray
deriving DecidableEq
def V.zero : V := ⟨0, 0, ⟨#[]⟩⟩
instance : Inhabited V := ⟨V.zero⟩
@[reducible] def V.cells (v : V) : Array Value := #[.int .i64 v.s, .int .i64 v.b, .string v.x]
@[reducible] def V.val (v : V) : Value := .agg #[.int .i64 v.s, .int .i64 v.b, .string v.x]

/-! ### cells in a row -/
/-- The cells of votes, one behind the other. -/
def vflat : List V → List Value
  | [] => []
  | x :: l => x.cells.toList ++ vflat l
theorem vflat_length (l : List V) : (vflat l).length = l.length * 3 := by
  induction l with
  | nil => rfl
  | cons m l ih => simp only [vflat, List.length_append, ih, List.length_cons]; simp; omega
theorem vflat_append (l k : List V) : vflat (l ++ k) = vflat l ++ vflat k := by
  induction l with
  | nil => rfl
  | cons m l ih => simp only [List.cons_append, vflat, ih, List.append_assoc]
theorem vflat_one (m : V) : vflat [m] = m.cells.toList := by simp [vflat]
theorem vflat_oneCell (l : List V) : ∀ u ∈ vflat l, u.oneCell' = true := by
  induction l with
  | nil => intro u hu; simp [vflat] at hu
  | cons m l ih =>
    intro u hu
    simp only [vflat, List.mem_append] at hu
    rcases hu with hu | hu
    · simp at hu
      rcases hu with rfl | rfl | rfl <;> rfl
    · exact ih u hu
theorem vflat_get (l : List V) (i : Nat) (m : V) (h : l[i]? = some m) (j : Nat) (hj : j < 3) : (vflat l)[i * 3 + j]? = m.cells.toList[j]? := by
  induction l generalizing i with
  | nil => simp at h
  | cons x l ih =>
    have hx : x.cells.toList.length = 3 := by simp
    cases i with
    | zero =>
      simp at h
      subst h
      rw [vflat, List.getElem?_append_left (by omega)]
      congr 1; omega
    | succ i =>
      simp at h
      rw [vflat, List.getElem?_append_right (by omega), hx]
      rw [show (i + 1) * 3 + j - 3 = i * 3 + j by omega]
      exact ih i h

/-- The vote m lies at the place o of block g. -/
structure VAt (w : World) (g o : Nat) (m : V) : Prop where
  c0 : w.cell? ⟨g, o, none⟩ = some (.int .i64 m.s)
  c1 : w.cell? ⟨g, o + 1, none⟩ = some (.int .i64 m.b)
  c2 : w.cell? ⟨g, o + 2, none⟩ = some (.string m.x)

/-- The slice v has the votes l, in a row of its own from block 'base' on; e: their type. -/
def OwnsV (e : TypeId) (w : World) (base : Nat) (v : Value) (l : List V) : Prop := w.ownsRow base e 3 v l.length (vflat l)

theorem OwnsV.nil (e : TypeId) (w : World) (base : Nat) : OwnsV e w base (.slice none 0 0) [] := World.ownsRow_nil _ _ _ _
theorem OwnsV.kept {e : TypeId} {w w' : World} {base : Nat} {v : Value} {l : List V} (h : OwnsV e w base v l) (hb : ∀ g, v.ownBlock = some g → w'.heap[g]? = w.heap[g]?) : OwnsV e w' base v l := by
  refine ⟨h.1, ?_⟩
  rcases h.2 with hn | ⟨g, cap, cur, rfl, hbs, hgg, rest⟩
  · exact .inl hn
  · exact .inr ⟨g, cap, cur, rfl, hbs, by rw [hb g rfl]; exact hgg, rest⟩
theorem OwnsV.lt {e : TypeId} {w : World} {base : Nat} {v : Value} {l : List V} (h : OwnsV e w base v l) {g : Nat} (hg : v.ownBlock = some g) : base ≤ g ∧ g < w.heap.size := World.ownsRow.lt h g hg
theorem OwnsV.below {e : TypeId} {w w' : World} (hb : Below w.heap.size w w') {base : Nat} {v : Value} {l : List V} (h : OwnsV e w base v l) : OwnsV e w' base v l :=
  h.kept fun g hg => hb.block g (h.lt hg).2
theorem OwnsV.grown {e : TypeId} {w w' : World} {row : Option Nat} (hb : w.grownBy w' row) {base : Nat} {v : Value} {l : List V} (h : OwnsV e w base v l) (hne : ∀ g, v.ownBlock = some g → some g ≠ row) : OwnsV e w' base v l :=
  h.kept fun g hg => hb.block g (h.lt hg).2 (hne g hg)
theorem OwnsV.mono {e : TypeId} {w : World} {base base' : Nat} {v : Value} {l : List V} (h : OwnsV e w base v l) (hb : base' ≤ base) : OwnsV e w base' v l := by
  refine ⟨h.1, ?_⟩
  rcases h.2 with hn | ⟨g, cap, cur, rfl, hbs, rest⟩
  · exact .inl hn
  · exact .inr ⟨g, cap, cur, rfl, by omega, rest⟩
/-- What it looks like: nothing, or a row whose votes lie one behind the other. -/
theorem OwnsV.form {e : TypeId} {w : World} {base : Nat} {v : Value} {l : List V} (h : OwnsV e w base v l) :
    (v = .slice none 0 0 ∧ l = []) ∨ ∃ g cap, v = .slice (some ⟨g, 0, none⟩) l.length cap ∧ base ≤ g ∧ g < w.heap.size ∧ l.length ≤ cap ∧ cap ≤ maxLen ∧ ∀ i m, l[i]? = some m → VAt w g (i * 3) m := by
  rcases h.2 with ⟨hv, h0⟩ | ⟨g, cap, cur, hv, hb, hg, hn, hm, hs, ht⟩
  · exact .inl ⟨hv, List.length_eq_zero_iff.1 h0⟩
  · refine .inr ⟨g, cap, hv, hb, (Array.getElem?_eq_some_iff.1 hg).1, hn, hm, fun i m hi => ?_⟩
    have hil : i < l.length := (List.getElem?_eq_some_iff.1 hi).1
    have hc : ∀ j, j < 3 → w.cell? ⟨g, i * 3 + j, none⟩ = m.cells.toList[j]? := fun j hj => by
      rw [cell_of_row w g (i * 3 + j) cur _ (0, 0) hg, ← vflat_get l i m hi j hj, ← ht, List.getElem?_take, if_pos (by omega)]
      simp
    exact ⟨hc 0 (by omega), hc 1 (by omega), hc 2 (by omega)⟩
theorem OwnsV.shape {e : TypeId} {w : World} {base : Nat} {v : Value} {l : List V} (h : OwnsV e w base v l) : ∃ A c, v = .slice A l.length c := by
  rcases h.form with ⟨rfl, rfl⟩ | ⟨g, cap, rfl, -⟩
  · exact ⟨none, 0, rfl⟩
  · exact ⟨_, cap, rfl⟩
/-- The cells that lie there, for one who appends them. -/
theorem OwnsV.news {e : TypeId} {w : World} {base g n cap : Nat} {l : List V} (h : OwnsV e w base (.slice (some ⟨g, 0, none⟩) n cap) l) : ∀ j u, (vflat l)[j]? = some u → w.cell? ((⟨g, 0, none⟩ : Addr).add j) = some u :=
  World.ownsRow.cells h rfl
/-- An empty slice that is not nil. -/
theorem OwnsV.lit {e : TypeId} {w : World} {base : Nat} (hb : base ≤ w.heap.size) : OwnsV e (w.alloc (.cells #[] e)) base (.slice (some ⟨w.heap.size, 0, none⟩) 0 0) [] :=
  World.ownsRow_lit (base := base) (e := e) (size := 3) w #[] 0 hb (by simp) rfl

/-- The cells of a vote that is to be appended: behind one more block, or behind none. -/
theorem vnews1 (w : World) (y : V) (e : TypeId) : ∀ j u, (vflat [y])[j]? = some u → (w.alloc (.cells y.cells e)).cell? ((⟨w.heap.size, 0, none⟩ : Addr).add j) = some u := fun j u hu =>
  World.news_of_block (cs := y.cells) (t := e) (fr := (0, 0)) (heap_alloc_new w _) j u (by rw [vflat_one] at hu; exact hu)
theorem vnews2 (w : World) (o : Obj) (y : V) (e : TypeId) : ∀ j u, (vflat [y])[j]? = some u → ((w.alloc o).alloc (.cells y.cells e)).cell? ((⟨w.heap.size + 1, 0, none⟩ : Addr).add j) = some u := fun j u hu => by
  have := vnews1 (w.alloc o) y e j u hu
  rwa [World.size_alloc] at this
theorem vnews3 (w : World) (o o' : Obj) (y : V) (e : TypeId) : ∀ j u, (vflat [y])[j]? = some u → (((w.alloc o).alloc o').alloc (.cells y.cells e)).cell? ((⟨w.heap.size + 1 + 1, 0, none⟩ : Addr).add j) = some u := fun j u hu => by
  have := vnews2 (w.alloc o) o' y e j u hu
  rwa [World.size_alloc] at this
/-- What an append leaves, as a list. -/
theorem OwnsV.snoc {e : TypeId} {w : World} {base g cap : Nat} {l : List V} {y : V} (h : w.ownsRow base e 3 (.slice (some ⟨g, 0, none⟩) (l.length + 1) cap) (l.length + 1) (vflat l ++ vflat [y])) : OwnsV e w base (.slice (some ⟨g, 0, none⟩) (l.length + 1) cap) (l ++ [y]) := by
  unfold OwnsV; rw [vflat_append]; simpa using h

theorem OwnsV.lit2 {e : TypeId} (w : World) (base : Nat) (o : Obj) (hb : base ≤ w.heap.size + 1) : OwnsV e ((w.alloc o).alloc (.cells #[] e)) base (.slice (some ⟨w.heap.size + 1, 0, none⟩) 0 0) [] := by
  have := OwnsV.lit (e := e) (w := w.alloc o) (base := base) (by simp; omega)
  rwa [World.size_alloc] at this

/-- A row of votes, as one reads it. -/
theorem vshape {e : TypeId} {w : World} {base : Nat} {v : Value} {l : List V} (h : OwnsV e w base v l) : ∃ A c, v = .slice A l.length c ∧ ∀ i m, l[i]? = some m → ∃ g, A = some ⟨g, 0, none⟩ ∧ g < w.heap.size ∧ VAt w g (i * 3) m := by
  rcases h.form with ⟨rfl, rfl⟩ | ⟨g, cap, rfl, -, hg, -, -, hm⟩
  · exact ⟨none, 0, rfl, fun i m h => by simp at h⟩
  · exact ⟨_, cap, rfl, fun i m h => ⟨g, rfl, hg, hm i m h⟩⟩
theorem VAt.below {w w' : World} {B g o : Nat} {m : V} (h : VAt w g o m) (hb : Below B w w') (hg : g < B) : VAt w' g o m :=
  ⟨(hb.cell (p := ⟨g, o, none⟩) hg).trans h.c0, (hb.cell (p := ⟨g, o + 1, none⟩) hg).trans h.c1, (hb.cell (p := ⟨g, o + 2, none⟩) hg).trans h.c2⟩
theorem VAt.of_block {w w' : World} {g o : Nat} {m : V} (h : VAt w g o m) (hb : w'.heap[g]? = w.heap[g]?) : VAt w' g o m :=
  ⟨(World.cell?_of_block (w := w) (a := ⟨g, o, none⟩) hb).trans h.c0, (World.cell?_of_block (w := w) (a := ⟨g, o + 1, none⟩) hb).trans h.c1, (World.cell?_of_block (w := w) (a := ⟨g, o + 2, none⟩) hb).trans h.c2⟩
theorem infoP : (Tryd.prog.info? 32).map (fun i => (i.zero, i.size, i.bytes)) = some (some (.agg #[.int .i64 0, .int .i64 0, .string ⟨#[]⟩]), 3, 32) := by kernel_rfl
theorem infoR : (Tryd.prog.info? 46).map (fun i => (i.zero, i.size, i.bytes)) = some (some (.agg #[.int .i64 0, .int .i64 0, .string ⟨#[]⟩]), 3, 32) := by kernel_rfl

/-! ### a vote that is all of a block -/
/-- The vote x is all that block b has. -/
def AV (t : TypeId) (w : World) (b : Nat) (x : V) : Prop := w.heap[b]? = some (.cells x.cells t (0, 0))
theorem AV.fresh (t : TypeId) (w : World) (x : V) : AV t (w.alloc (.cells x.cells t)) w.heap.size x := heap_alloc_new w _
theorem AV.lt {t : TypeId} {w : World} {b : Nat} {x : V} (h : AV t w b x) : b < w.heap.size := (Array.getElem?_eq_some_iff.1 h).1
theorem AV.of_block {t : TypeId} {w w' : World} {b : Nat} {x : V} (h : AV t w b x) (hb : w'.heap[b]? = w.heap[b]?) : AV t w' b x := by
  unfold AV; rw [hb]; exact h
theorem AV.below {t : TypeId} {w w' : World} {b : Nat} {x : V} (h : AV t w b x) (hb : Below w.heap.size w w') : AV t w' b x := h.of_block (hb.block b h.lt)
theorem AV.cell {t : TypeId} {w : World} {b : Nat} {x : V} (h : AV t w b x) (i : Nat) : w.cell? ⟨b, i, none⟩ = x.cells[i]? := by
  unfold World.cell?; simp only [show w.heap[b]? = _ from h]; rfl
theorem AV.all {t : TypeId} {w : World} {b : Nat} {x : V} (h : AV t w b x) : w.cell? ⟨b, 0, none⟩ = some (.int .i64 x.s) ∧ w.cell? ⟨b, 1, none⟩ = some (.int .i64 x.b) ∧ w.cell? ⟨b, 2, none⟩ = some (.string x.x) := ⟨h.cell 0, h.cell 1, h.cell 2⟩
theorem AV.free {t : TypeId} {w : World} {b : Nat} {x : V} (h : AV t w b x) (i : Nat) : w.frozen? ⟨b, i, none⟩ = false := by
  unfold World.frozen?; simp only [show w.heap[b]? = _ from h]; simp

/-! ### when two votes are the same -/
theorem pv_same (m : V) (w : World) : (binOp .eql 32 m.val m.val).run Tryd.prog w = .ok (.bool true) w := by
  have hg : Tryd.prog.stoodInHeld 32 = false := by kernel_rfl
  have hf : Tryd.prog.underlying 32 = some (.struct (Tryd.prog.fieldsOf 32)) := by kernel_rfl
  rw [run_eql_struct, run_equalIn_struct w 9999 32 _ _ hf hg]
  simp [go_sem, Tryd.underlying32, Tryd.underlying3, Tryd.underlying9]
theorem pv_other (m n : V) (w : World) (h : m ≠ n) : (binOp .eql 32 m.val n.val).run Tryd.prog w = .ok (.bool false) w := by
  have hg : Tryd.prog.stoodInHeld 32 = false := by kernel_rfl
  have hf : Tryd.prog.underlying 32 = some (.struct (Tryd.prog.fieldsOf 32)) := by kernel_rfl
  rw [run_eql_struct, run_equalIn_struct w 9999 32 _ _ hf hg]
  obtain ⟨a0, a1, a2⟩ := m
  obtain ⟨b0, b1, b2⟩ := n
  by_cases h0 : a0 = b0
  case neg => simp [go_sem, Tryd.underlying32, Tryd.underlying3, Tryd.underlying9, h0]
  by_cases h1 : a1 = b1
  case neg => simp [go_sem, Tryd.underlying32, Tryd.underlying3, Tryd.underlying9, h0, h1]
  have h7 : (a2.toList == b2.toList) = false := str_ne (fun e => h (by rw [h0, h1, e]))
  simp [go_sem, Tryd.underlying32, Tryd.underlying3, Tryd.underlying9, h0, h1, h7]
theorem pv_eq (m n : V) (w : World) : (binOp .eql 32 m.val n.val).run Tryd.prog w = .ok (.bool (decide (m = n))) w := by
  by_cases h : m = n
  · subst h; rw [decide_eq_true rfl]; exact pv_same m w
  · rw [decide_eq_false h]; exact pv_other m n w h
theorem pv_neq (m n : V) (w : World) : (binOp .neq 32 m.val n.val).run Tryd.prog w = .ok (.bool (!decide (m = n))) w := by
  have h1 := pv_eq m n w
  rw [run_eql_struct] at h1
  rw [run_neq_struct]
  revert h1
  generalize Sem.run Tryd.prog (Op.equalIn 10000 32 _ _) w = r
  intro h1
  cases r <;> simp_all [Result.andThen]
theorem rv_same (m : V) (w : World) : (binOp .eql 46 m.val m.val).run Tryd.prog w = .ok (.bool true) w := by
  have hg : Tryd.prog.stoodInHeld 46 = false := by kernel_rfl
  have hf : Tryd.prog.underlying 46 = some (.struct (Tryd.prog.fieldsOf 46)) := by kernel_rfl
  rw [run_eql_struct, run_equalIn_struct w 9999 46 _ _ hf hg]
  simp [go_sem, Tryd.underlying46, Tryd.underlying3, Tryd.underlying9]
theorem rv_other (m n : V) (w : World) (h : m ≠ n) : (binOp .eql 46 m.val n.val).run Tryd.prog w = .ok (.bool false) w := by
  have hg : Tryd.prog.stoodInHeld 46 = false := by kernel_rfl
  have hf : Tryd.prog.underlying 46 = some (.struct (Tryd.prog.fieldsOf 46)) := by kernel_rfl
  rw [run_eql_struct, run_equalIn_struct w 9999 46 _ _ hf hg]
  obtain ⟨a0, a1, a2⟩ := m
  obtain ⟨b0, b1, b2⟩ := n
  by_cases h0 : a0 = b0
  case neg => simp [go_sem, Tryd.underlying46, Tryd.underlying3, Tryd.underlying9, h0]
  by_cases h1 : a1 = b1
  case neg => simp [go_sem, Tryd.underlying46, Tryd.underlying3, Tryd.underlying9, h0, h1]
  have h7 : (a2.toList == b2.toList) = false := str_ne (fun e => h (by rw [h0, h1, e]))
  simp [go_sem, Tryd.underlying46, Tryd.underlying3, Tryd.underlying9, h0, h1, h7]
theorem rv_eq (m n : V) (w : World) : (binOp .eql 46 m.val n.val).run Tryd.prog w = .ok (.bool (decide (m = n))) w := by
  by_cases h : m = n
  · subst h; rw [decide_eq_true rfl]; exact rv_same m w
  · rw [decide_eq_false h]; exact rv_other m n w h
theorem rv_neq (m n : V) (w : World) : (binOp .neq 46 m.val n.val).run Tryd.prog w = .ok (.bool (!decide (m = n))) w := by
  have h1 := rv_eq m n w
  rw [run_eql_struct] at h1
  rw [run_neq_struct]
  revert h1
  generalize Sem.run Tryd.prog (Op.equalIn 10000 46 _ _) w = r
  intro h1
  cases r <;> simp_all [Result.andThen]
end Go.Proofs.YtacbodojbekeeaaDoor
