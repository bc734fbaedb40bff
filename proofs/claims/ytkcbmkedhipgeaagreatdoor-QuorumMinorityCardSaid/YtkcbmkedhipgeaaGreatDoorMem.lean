/-
  Votes: as values, as cells in a row, as all that a block has; when two are the same.

  An acceptor as plain data: what it promised, and its votes by slots; what its calls leave; its bytes, and what is read of bytes.

  An acceptor of the program, and the document's own, as cells; what of memory turns while one of them is called.
-/
import Derived.Test.YtkcbmkedhipgeaaGreatDoorOpened
import Derived.Test.YtkcbmkedhipgeaaGreatDoorRrtext
import Derived.Laws.Tables
import Derived.Laws.CopyOwn
import Derived.Laws.StructEq
import Derived.KernelRfl
import Derived.IntWalk
import Derived.Deep.RegionWith
import Derived.Deep.RegionLaw
import Derived.Deep.RegionHeld3
import Derived.Deep.QuietTactic
import Derived.Deep.AppendLies
import Derived.BigQuiet
import Derived.Deep.OwnRows
namespace Go.Proofs.YtkcbmkedhipgeaaGreatDoor
open Go.RowKit

/-- A vote: its slot, its ballot, its value. -/
structure V where
  s : Int
  b : Int
  x : ByteArray
deriving DecidableEq
def V.zero : V := ⟨0, 0, ⟨#[]⟩⟩
instance : Inhabited V := ⟨V.zero⟩
@[reducible] def V.cells (v : V) : Array Value := #[.int .i64 v.s, .int .i64 v.b, .string v.x]
@[reducible] def V.val (v : V) : Value := .agg #[.int .i64 v.s, .int .i64 v.b, .string v.x]

/-! ### cells in a row -/
/-- The cells of votes, one behind the other. -/
def vflat : List V → List Value
  | [] => []
  | x :: l => x.cells.toList ++ vflat l
theorem vflat_length (l : List V) : (vflat l).length = l.length * 3 := by
  induction l with
  | nil => rfl
  | cons m l ih => simp only [vflat, List.length_append, ih, List.length_cons]; simp; omega
theorem vflat_append (l k : List V) : vflat (l ++ k) = vflat l ++ vflat k := by
  induction l with
  | nil => rfl
  | cons m l ih => simp only [List.cons_append, vflat, ih, List.append_assoc]
theorem vflat_one (m : V) : vflat [m] = m.cells.toList := by simp [vflat]
theorem vflat_oneCell (l : List V) : ∀ u ∈ vflat l, u.oneCell' = true := by
  induction l with
  | nil => intro u hu; simp [vflat] at hu
  | cons m l ih =>
    intro u hu
    simp only [vflat, List.mem_append] at hu
    rcases hu with hu | hu
    · simp at hu
      rcases hu with rfl | rfl | rfl <;> rfl
    · exact ih u hu
theorem vflat_get (l : List V) (i : Nat) (m : V) (h : l[i]? = some m) (j : Nat) (hj : j < 3) : (vflat l)[i * 3 + j]? = m.cells.toList[j]? := by
  induction l generalizing i with
  | nil => simp at h
  | cons x l ih =>
    have hx : x.cells.toList.length = 3 := by simp
    cases i with
    | zero =>
      simp at h
      subst h
      rw [vflat, List.getElem?_append_left (by omega)]
      congr 1; omega
    | succ i =>
      simp at h
      rw [vflat, List.getElem?_append_right (by omega), hx]
      rw [show (i + 1) * 3 + j - 3 = i * 3 + j by omega]
      exact ih i h

/-- The vote m lies at the place o of block g. -/
structure VAt (w : World) (g o : Nat) (m : V) : Prop where
  c0 : w.cell? ⟨g, o, none⟩ = some (.int .i64 m.s)
  c1 : w.cell? ⟨g, o + 1, none⟩ = some (.int .i64 m.b)
  c2 : w.cell? ⟨g, o + 2, none⟩ = some (.string m.x)

/-- The slice v has the votes l, in a row of its own from block 'base' on; e: their type. -/
def OwnsV (e : TypeId) (w : World) (base : Nat) (v : Value) (l : List V) : Prop := w.ownsRow base e 3 v l.length (vflat l)

theorem OwnsV.nil (e : TypeId) (w : World) (base : Nat) : OwnsV e w base (.slice none 0 0) [] := World.ownsRow_nil _ _ _ _
theorem OwnsV.kept {e : TypeId} {w w' : World} {base : Nat} {v : Value} {l : List V} (h : OwnsV e w base v l) (hb : ∀ g, v.ownBlock = some g → w'.heap[g]? = w.heap[g]?) : OwnsV e w' base v l := by
  refine ⟨h.1, ?_⟩
  rcases h.2 with hn | ⟨g, cap, cur, rfl, hbs, hgg, rest⟩
  · exact .inl hn
  · exact .inr ⟨g, cap, cur, rfl, hbs, by rw [hb g rfl]; exact hgg, rest⟩
theorem OwnsV.lt {e : TypeId} {w : World} {base : Nat} {v : Value} {l : List V} (h : OwnsV e w base v l) {g : Nat} (hg : v.ownBlock = some g) : base ≤ g ∧ g < w.heap.size := World.ownsRow.lt h g hg
theorem OwnsV.below {e : TypeId} {w w' : World} (hb : Below w.heap.size w w') {base : Nat} {v : Value} {l : List V} (h : OwnsV e w base v l) : OwnsV e w' base v l :=
  h.kept fun g hg => hb.block g (h.lt hg).2
theorem OwnsV.grown {e : TypeId} {w w' : World} {row : Option Nat} (hb : w.grownBy w' row) {base : Nat} {v : Value} {l : List V} (h : OwnsV e w base v l) (hne : ∀ g, v.ownBlock = some g → some g ≠ row) : OwnsV e w' base v l :=
  h.kept fun g hg => hb.block g (h.lt hg).2 (hne g hg)
theorem OwnsV.mono {e : TypeId} {w : World} {base base' : Nat} {v : Value} {l : List V} (h : OwnsV e w base v l) (hb : base' ≤ base) : OwnsV e w base' v l := by
  refine ⟨h.1, ?_⟩
  rcases h.2 with hn | ⟨g, cap, cur, rfl, hbs, rest⟩
  · exact .inl hn
  · exact .inr ⟨g, cap, cur, rfl, by omega, rest⟩
/-- What it looks like: nothing, or a row whose votes lie one behind the other. -/
theorem OwnsV.form {e : TypeId} {w : World} {base : Nat} {v : Value} {l : List V} (h : OwnsV e w base v l) :
    (v = .slice none 0 0 ∧ l = []) ∨ ∃ g cap, v = .slice (some ⟨g, 0, none⟩) l.length cap ∧ base ≤ g ∧ g < w.heap.size ∧ l.length ≤ cap ∧ cap ≤ maxLen ∧ ∀ i m, l[i]? = some m → VAt w g (i * 3) m := by
  rcases h.2 with ⟨hv, h0⟩ | ⟨g, cap, cur, hv, hb, hg, hn, hm, hs, ht⟩
  · exact .inl ⟨hv, List.length_eq_zero_iff.1 h0⟩
  · refine .inr ⟨g, cap, hv, hb, (Array.getElem?_eq_some_iff.1 hg).1, hn, hm, fun i m hi => ?_⟩
    have hil : i < l.length := (List.getElem?_eq_some_iff.1 hi).1
    have hc : ∀ j, j < 3 → w.cell? ⟨g, i * 3 + j, none⟩ = m.cells.toList[j]? := fun j hj => by
      rw [cell_of_row w g (i * 3 + j) cur _ (0, 0) hg, ← vflat_get l i m hi j hj, ← ht, List.getElem?_take, if_pos (by omega)]
      simp
    exact ⟨hc 0 (by omega), hc 1 (by omega), hc 2 (by omega)⟩
theorem OwnsV.shape {e : TypeId} {w : World} {base : Nat} {v : Value} {l : List V} (h : OwnsV e w base v l) : ∃ A c, v = .slice A l.length c := by
  rcases h.form with ⟨rfl, rfl⟩ | ⟨g, cap, rfl, -⟩
  · exact ⟨none, 0, rfl⟩
  · exact ⟨_, cap, rfl⟩
/-- The cells that lie there, for one who appends them. -/
theorem OwnsV.news {e : TypeId} {w : World} {base g n cap : Nat} {l : List V} (h : OwnsV e w base (.slice (some ⟨g, 0, none⟩) n cap) l) : ∀ j u, (vflat l)[j]? = some u → w.cell? ((⟨g, 0, none⟩ : Addr).add j) = some u :=
  World.ownsRow.cells h rfl
/-- An empty slice that is not nil. -/
theorem OwnsV.lit {e : TypeId} {w : World} {base : Nat} (hb : base ≤ w.heap.size) : OwnsV e (w.alloc (.cells #[] e)) base (.slice (some ⟨w.heap.size, 0, none⟩) 0 0) [] :=
  World.ownsRow_lit (base := base) (e := e) (size := 3) w #[] 0 hb (by simp) rfl

/-- The cells of a vote that is to be appended: behind one more block, or behind none. -/
theorem vnews1 (w : World) (y : V) (e : TypeId) : ∀ j u, (vflat [y])[j]? = some u → (w.alloc (.cells y.cells e)).cell? ((⟨w.heap.size, 0, none⟩ : Addr).add j) = some u := fun j u hu =>
  World.news_of_block (cs := y.cells) (t := e) (fr := (0, 0)) (heap_alloc_new w _) j u (by rw [vflat_one] at hu; exact hu)
theorem vnews2 (w : World) (o : Obj) (y : V) (e : TypeId) : ∀ j u, (vflat [y])[j]? = some u → ((w.alloc o).alloc (.cells y.cells e)).cell? ((⟨w.heap.size + 1, 0, none⟩ : Addr).add j) = some u := fun j u hu => by
  have := vnews1 (w.alloc o) y e j u hu
  rwa [World.size_alloc] at this
theorem vnews3 (w : World) (o o' : Obj) (y : V) (e : TypeId) : ∀ j u, (vflat [y])[j]? = some u → (((w.alloc o).alloc o').alloc (.cells y.cells e)).cell? ((⟨w.heap.size + 1 + 1, 0, none⟩ : Addr).add j) = some u := fun j u hu => by
  have := vnews2 (w.alloc o) o' y e j u hu
  rwa [World.size_alloc] at this
/-- What an append leaves, as a list. -/
theorem OwnsV.snoc {e : TypeId} {w : World} {base g cap : Nat} {l : List V} {y : V} (h : w.ownsRow base e 3 (.slice (some ⟨g, 0, none⟩) (l.length + 1) cap) (l.length + 1) (vflat l ++ vflat [y])) : OwnsV e w base (.slice (some ⟨g, 0, none⟩) (l.length + 1) cap) (l ++ [y]) := by
  unfold OwnsV; rw [vflat_append]; simpa using h

theorem OwnsV.lit2 {e : TypeId} (w : World) (base : Nat) (o : Obj) (hb : base ≤ w.heap.size + 1) : OwnsV e ((w.alloc o).alloc (.cells #[] e)) base (.slice (some ⟨w.heap.size + 1, 0, none⟩) 0 0) [] := by
  have := OwnsV.lit (e := e) (w := w.alloc o) (base := base) (by simp; omega)
  rwa [World.size_alloc] at this

/-- A row of votes, as one reads it. -/
theorem vshape {e : TypeId} {w : World} {base : Nat} {v : Value} {l : List V} (h : OwnsV e w base v l) : ∃ A c, v = .slice A l.length c ∧ ∀ i m, l[i]? = some m → ∃ g, A = some ⟨g, 0, none⟩ ∧ g < w.heap.size ∧ VAt w g (i * 3) m := by
  rcases h.form with ⟨rfl, rfl⟩ | ⟨g, cap, rfl, -, hg, -, -, hm⟩
  · exact ⟨none, 0, rfl, fun i m h => by simp at h⟩
  · exact ⟨_, cap, rfl, fun i m h => ⟨g, rfl, hg, hm i m h⟩⟩
theorem VAt.below {w w' : World} {B g o : Nat} {m : V} (h : VAt w g o m) (hb : Below B w w') (hg : g < B) : VAt w' g o m :=
  ⟨(hb.cell (p := ⟨g, o, none⟩) hg).trans h.c0, (hb.cell (p := ⟨g, o + 1, none⟩) hg).trans h.c1, (hb.cell (p := ⟨g, o + 2, none⟩) hg).trans h.c2⟩
theorem VAt.of_block {w w' : World} {g o : Nat} {m : V} (h : VAt w g o m) (hb : w'.heap[g]? = w.heap[g]?) : VAt w' g o m :=
  ⟨(World.cell?_of_block (w := w) (a := ⟨g, o, none⟩) hb).trans h.c0, (World.cell?_of_block (w := w) (a := ⟨g, o + 1, none⟩) hb).trans h.c1, (World.cell?_of_block (w := w) (a := ⟨g, o + 2, none⟩) hb).trans h.c2⟩
theorem infoP : (Tryz.prog.info? 75).map (fun i => (i.zero, i.size, i.bytes)) = some (some (.agg #[.int .i64 0, .int .i64 0, .string ⟨#[]⟩]), 3, 32) := by kernel_rfl
theorem infoR : (Tryz.prog.info? 78).map (fun i => (i.zero, i.size, i.bytes)) = some (some (.agg #[.int .i64 0, .int .i64 0, .string ⟨#[]⟩]), 3, 32) := by kernel_rfl

/-! ### a vote that is all of a block -/
/-- The vote x is all that block b has. -/
def AV (t : TypeId) (w : World) (b : Nat) (x : V) : Prop := w.heap[b]? = some (.cells x.cells t (0, 0))
theorem AV.fresh (t : TypeId) (w : World) (x : V) : AV t (w.alloc (.cells x.cells t)) w.heap.size x := heap_alloc_new w _
theorem AV.lt {t : TypeId} {w : World} {b : Nat} {x : V} (h : AV t w b x) : b < w.heap.size := (Array.getElem?_eq_some_iff.1 h).1
theorem AV.of_block {t : TypeId} {w w' : World} {b : Nat} {x : V} (h : AV t w b x) (hb : w'.heap[b]? = w.heap[b]?) : AV t w' b x := by
  unfold AV; rw [hb]; exact h
theorem AV.below {t : TypeId} {w w' : World} {b : Nat} {x : V} (h : AV t w b x) (hb : Below w.heap.size w w') : AV t w' b x := h.of_block (hb.block b h.lt)
theorem AV.cell {t : TypeId} {w : World} {b : Nat} {x : V} (h : AV t w b x) (i : Nat) : w.cell? ⟨b, i, none⟩ = x.cells[i]? := by
  unfold World.cell?; simp only [show w.heap[b]? = _ from h]; rfl
theorem AV.all {t : TypeId} {w : World} {b : Nat} {x : V} (h : AV t w b x) : w.cell? ⟨b, 0, none⟩ = some (.int .i64 x.s) ∧ w.cell? ⟨b, 1, none⟩ = some (.int .i64 x.b) ∧ w.cell? ⟨b, 2, none⟩ = some (.string x.x) := ⟨h.cell 0, h.cell 1, h.cell 2⟩
theorem AV.free {t : TypeId} {w : World} {b : Nat} {x : V} (h : AV t w b x) (i : Nat) : w.frozen? ⟨b, i, none⟩ = false := by
  unfold World.frozen?; simp only [show w.heap[b]? = _ from h]; simp

/-! ### when two votes are the same -/
theorem pv_same (m : V) (w : World) : (binOp .eql 75 m.val m.val).run Tryz.prog w = .ok (.bool true) w := by
  have hg : Tryz.prog.stoodInHeld 75 = false := by kernel_rfl
  have hf : Tryz.prog.underlying 75 = some (.struct (Tryz.prog.fieldsOf 75)) := by kernel_rfl
  rw [run_eql_struct, run_equalIn_struct w 9999 75 _ _ hf hg]
  simp [go_sem, Tryz.underlying75, Tryz.underlying3, Tryz.underlying9]
theorem pv_other (m n : V) (w : World) (h : m ≠ n) : (binOp .eql 75 m.val n.val).run Tryz.prog w = .ok (.bool false) w := by
  have hg : Tryz.prog.stoodInHeld 75 = false := by kernel_rfl
  have hf : Tryz.prog.underlying 75 = some (.struct (Tryz.prog.fieldsOf 75)) := by kernel_rfl
  rw [run_eql_struct, run_equalIn_struct w 9999 75 _ _ hf hg]
  obtain ⟨a0, a1, a2⟩ := m
  obtain ⟨b0, b1, b2⟩ := n
  by_cases h0 : a0 = b0
  case neg => simp [go_sem, Tryz.underlying75, Tryz.underlying3, Tryz.underlying9, h0]
  by_cases h1 : a1 = b1
  case neg => simp [go_sem, Tryz.underlying75, Tryz.underlying3, Tryz.underlying9, h0, h1]
  have h7 : (a2.toList == b2.toList) = false := str_ne (fun e => h (by rw [h0, h1, e]))
  simp [go_sem, Tryz.underlying75, Tryz.underlying3, Tryz.underlying9, h0, h1, h7]
theorem pv_eq (m n : V) (w : World) : (binOp .eql 75 m.val n.val).run Tryz.prog w = .ok (.bool (decide (m = n))) w := by
  by_cases h : m = n
  · subst h; rw [decide_eq_true rfl]; exact pv_same m w
  · rw [decide_eq_false h]; exact pv_other m n w h
theorem pv_neq (m n : V) (w : World) : (binOp .neq 75 m.val n.val).run Tryz.prog w = .ok (.bool (!decide (m = n))) w := by
  have h1 := pv_eq m n w
  rw [run_eql_struct] at h1
  rw [run_neq_struct]
  revert h1
  generalize Sem.run Tryz.prog (Op.equalIn 10000 75 _ _) w = r
  intro h1
  cases r <;> simp_all [Result.andThen]
theorem rv_same (m : V) (w : World) : (binOp .eql 78 m.val m.val).run Tryz.prog w = .ok (.bool true) w := by
  have hg : Tryz.prog.stoodInHeld 78 = false := by kernel_rfl
  have hf : Tryz.prog.underlying 78 = some (.struct (Tryz.prog.fieldsOf 78)) := by kernel_rfl
  rw [run_eql_struct, run_equalIn_struct w 9999 78 _ _ hf hg]
  simp [go_sem, Tryz.underlying78, Tryz.underlying3, Tryz.underlying9]
theorem rv_other (m n : V) (w : World) (h : m ≠ n) : (binOp .eql 78 m.val n.val).run Tryz.prog w = .ok (.bool false) w := by
  have hg : Tryz.prog.stoodInHeld 78 = false := by kernel_rfl
  have hf : Tryz.prog.underlying 78 = some (.struct (Tryz.prog.fieldsOf 78)) := by kernel_rfl
  rw [run_eql_struct, run_equalIn_struct w 9999 78 _ _ hf hg]
  obtain ⟨a0, a1, a2⟩ := m
  obtain ⟨b0, b1, b2⟩ := n
  by_cases h0 : a0 = b0
  case neg => simp [go_sem, Tryz.underlying78, Tryz.underlying3, Tryz.underlying9, h0]
  by_cases h1 : a1 = b1
  case neg => simp [go_sem, Tryz.underlying78, Tryz.underlying3, Tryz.underlying9, h0, h1]
  have h7 : (a2.toList == b2.toList) = false := str_ne (fun e => h (by rw [h0, h1, e]))
  simp [go_sem, Tryz.underlying78, Tryz.underlying3, Tryz.underlying9, h0, h1, h7]
theorem rv_eq (m n : V) (w : World) : (binOp .eql 78 m.val n.val).run Tryz.prog w = .ok (.bool (decide (m = n))) w := by
  by_cases h : m = n
  · subst h; rw [decide_eq_true rfl]; exact rv_same m w
  · rw [decide_eq_false h]; exact rv_other m n w h
theorem rv_neq (m n : V) (w : World) : (binOp .neq 78 m.val n.val).run Tryz.prog w = .ok (.bool (!decide (m = n))) w := by
  have h1 := rv_eq m n w
  rw [run_eql_struct] at h1
  rw [run_neq_struct]
  revert h1
  generalize Sem.run Tryz.prog (Op.equalIn 10000 78 _ _) w = r
  intro h1
  cases r <;> simp_all [Result.andThen]
end Go.Proofs.YtkcbmkedhipgeaaGreatDoor

namespace Go.Proofs.YtkcbmkedhipgeaaGreatDoor
open Go.RowKit Go.Lib Go.PlainAid

/-- Is b a ballot? -/
def isB (b : Int) : Prop := 1 ≤ b ∧ b ≤ 1099511627776
instance (b : Int) : Decidable (isB b) := by unfold isB; infer_instance
/-- The votes stand by slots, from lo on. -/
def Srt : Int → List V → Prop
  | _, [] => True
  | lo, v :: l => lo ≤ v.s ∧ v.s < 4096 ∧ Srt (v.s + 1) l
theorem Srt.mono {lo lo' : Int} {l : List V} (h : Srt lo l) (hl : lo' ≤ lo) : Srt lo' l := by
  cases l with
  | nil => trivial
  | cons v l => exact ⟨Int.le_trans hl h.1, h.2⟩
theorem Srt.mem {lo : Int} {l : List V} (h : Srt lo l) : ∀ v ∈ l, lo ≤ v.s ∧ v.s < 4096 := by
  induction l generalizing lo with
  | nil => intro v hv; cases hv
  | cons u l ih =>
    intro v hv
    rcases List.mem_cons.1 hv with rfl | hv
    · exact ⟨h.1, h.2.1⟩
    · have h1 := ih h.2.2 v hv
      have h2 := h.1
      omega
theorem Srt.len {lo : Int} {l : List V} (h : Srt lo l) (h0 : lo ≤ 4096) : (l.length : Int) + lo ≤ 4096 := by
  induction l generalizing lo with
  | nil => simpa using h0
  | cons u l ih =>
    have h1 := ih h.2.2 (by have := h.2.1; omega)
    have := h.1
    simp only [List.length_cons]; omega
theorem Srt.tail {lo : Int} {v : V} {l : List V} (h : Srt lo (v :: l)) : Srt lo l := h.2.2.mono (by have := h.1; omega)
theorem Srt.append {lo : Int} {l : List V} {v : V} (h : Srt lo l) (h1 : ∀ u ∈ l, u.s < v.s) (h2 : lo ≤ v.s) (h3 : v.s < 4096) : Srt lo (l ++ [v]) := by
  induction l generalizing lo with
  | nil => exact ⟨h2, h3, trivial⟩
  | cons u l ih => exact ⟨h.1, h.2.1, ih h.2.2 (fun x hx => h1 x (List.mem_cons_of_mem _ hx)) (by have := h1 u List.mem_cons_self; omega)⟩

/-- The vote of slot i. -/
def lk (l : List V) (i : Int) : Option V := l.find? fun v => v.s == i
theorem lk_nil (i : Int) : lk [] i = none := rfl
theorem lk_cons (v : V) (l : List V) (i : Int) : lk (v :: l) i = if v.s = i then some v else lk l i := by
  unfold lk
  by_cases h : v.s = i
  · rw [if_pos h, List.find?_cons_of_pos (by simpa using h)]
  · rw [if_neg h, List.find?_cons_of_neg (by simpa using h)]
theorem lk_none {l : List V} {i : Int} (h : ∀ v ∈ l, v.s ≠ i) : lk l i = none := by
  induction l with
  | nil => rfl
  | cons v l ih => rw [lk_cons, if_neg (h v List.mem_cons_self)]; exact ih fun u hu => h u (List.mem_cons_of_mem _ hu)
theorem lk_slot {l : List V} {i : Int} {v : V} (h : lk l i = some v) : v.s = i ∧ v ∈ l := by
  refine ⟨by simpa using List.find?_some h, List.mem_of_find?_eq_some h⟩
/-- v is the vote of its slot. -/
def ins (v : V) : List V → List V
  | [] => [v]
  | u :: l => if u.s < v.s then u :: ins v l else if u.s = v.s then v :: l else v :: u :: l
theorem lk_ins {lo : Int} {l : List V} (h : Srt lo l) (v : V) (i : Int) : lk (ins v l) i = if v.s = i then some v else lk l i := by
  induction l generalizing lo with
  | nil => rw [ins, lk_cons]
  | cons u l ih =>
    rw [ins]
    by_cases h1 : u.s < v.s
    · rw [if_pos h1, lk_cons, lk_cons, ih h.2.2]
      by_cases e1 : u.s = i
      · rw [if_pos e1, if_pos e1, if_neg (by omega)]
      · rw [if_neg e1, if_neg e1]
    · rw [if_neg h1]
      by_cases h2 : u.s = v.s
      · rw [if_pos h2, lk_cons, lk_cons]
        by_cases e1 : v.s = i
        · rw [if_pos e1, if_pos e1]
        · rw [if_neg e1, if_neg e1, if_neg (by omega)]
      · rw [if_neg h2, lk_cons]
theorem ins_srt {lo : Int} {l : List V} (h : Srt lo l) (v : V) (h1 : lo ≤ v.s) (h2 : v.s < 4096) : Srt lo (ins v l) := by
  induction l generalizing lo with
  | nil => exact ⟨h1, h2, trivial⟩
  | cons u l ih =>
    rw [ins]
    by_cases g1 : u.s < v.s
    · rw [if_pos g1]; exact ⟨h.1, h.2.1, ih h.2.2 (by omega)⟩
    · rw [if_neg g1]
      by_cases g2 : u.s = v.s
      · rw [if_pos g2]; exact ⟨h1, h2, by rw [← g2]; exact h.2.2⟩
      · rw [if_neg g2]; exact ⟨h1, h2, by omega, h.2.1, h.2.2⟩
theorem ins_mem {l : List V} {v u : V} (h : u ∈ ins v l) : u = v ∨ u ∈ l := by
  induction l with
  | nil => rw [ins] at h; exact .inl (by simpa using h)
  | cons x l ih =>
    rw [ins] at h
    split at h
    · rcases List.mem_cons.1 h with rfl | h
      · exact .inr List.mem_cons_self
      · rcases ih h with h | h
        · exact .inl h
        · exact .inr (List.mem_cons_of_mem _ h)
    · split at h
      · rcases List.mem_cons.1 h with rfl | h
        · exact .inl rfl
        · exact .inr (List.mem_cons_of_mem _ h)
      · rcases List.mem_cons.1 h with rfl | h
        · exact .inl rfl
        · exact .inr h
theorem ins_below {l r : List V} {v : V} (h : ∀ u ∈ l, u.s < v.s) : ins v (l ++ r) = l ++ ins v r := by
  induction l with
  | nil => rfl
  | cons u l ih => rw [List.cons_append, ins, if_pos (h u List.mem_cons_self), ih fun x hx => h x (List.mem_cons_of_mem _ hx), List.cons_append]
theorem ins_above {l r : List V} {v : V} (h : ∃ u ∈ l, v.s ≤ u.s) : ins v (l ++ r) = ins v l ++ r := by
  induction l with
  | nil => obtain ⟨u, hu, _⟩ := h; cases hu
  | cons u l ih =>
    rw [List.cons_append, ins, ins]
    by_cases h1 : u.s < v.s
    · rw [if_pos h1, if_pos h1, ih, List.cons_append]
      obtain ⟨x, hx, hv⟩ := h
      rcases List.mem_cons.1 hx with rfl | hx
      · omega
      · exact ⟨x, hx, hv⟩
    · rw [if_neg h1, if_neg h1]
      split <;> simp
theorem ins_end {l : List V} {v : V} (h : ∀ u ∈ l, u.s < v.s) : ins v l = l ++ [v] := by
  have := ins_below (r := []) h
  simpa [ins] using this

/-- The votes from slot lo on, below slot hi. -/
def sub (l : List V) (lo hi : Int) : List V := l.filter fun v => decide (lo ≤ v.s) && decide (v.s < hi)
theorem sub_cons (v : V) (l : List V) (lo hi : Int) : sub (v :: l) lo hi = if lo ≤ v.s ∧ v.s < hi then v :: sub l lo hi else sub l lo hi := by
  unfold sub
  rw [List.filter_cons]
  by_cases h : lo ≤ v.s ∧ v.s < hi
  · rw [if_pos h, if_pos (by simp [h.1, h.2])]
  · rw [if_neg h, if_neg (by simpa using h)]
theorem sub_none {l : List V} {lo hi : Int} (h : ∀ v ∈ l, ¬ (lo ≤ v.s ∧ v.s < hi)) : sub l lo hi = [] := by
  unfold sub
  rw [List.filter_eq_nil_iff]
  intro v hv
  simpa using h v hv
theorem sub_more {b : Int} {l : List V} (h : Srt b l) (lo k : Int) (hk : lo ≤ k) : sub l lo (k + 1) = sub l lo k ++ (lk l k).toList := by
  induction l generalizing b with
  | nil => rfl
  | cons v l ih =>
    have hm := h.2.2.mem
    rw [sub_cons, sub_cons, lk_cons]
    by_cases e : v.s = k
    · rw [if_pos e, if_pos (by omega), if_neg (by omega), sub_none (fun u hu => by have := (hm u hu).1; omega), sub_none (fun u hu => by have := (hm u hu).1; omega)]
      rfl
    · rw [if_neg e]
      by_cases e1 : lo ≤ v.s ∧ v.s < k
      · rw [if_pos e1, if_pos (by omega), ih h.2.2, List.cons_append]
      · rw [if_neg e1, if_neg (by omega), ih h.2.2]
theorem sub_all {b : Int} {l : List V} (h : Srt b l) (m : Int) : sub l m 4096 = l.filter fun v => decide (m ≤ v.s) := by
  unfold sub
  apply List.filter_congr
  intro v hv
  have := (h.mem v hv).2
  simp [this]
/-- The votes of slots from f on. -/
def from_ (l : List V) (f : Int) : List V := l.filter fun v => decide (f ≤ v.s)
theorem from_sub {l : List V} (h : Srt 0 l) (f : Int) : sub l (min (max f 0) 4096) 4096 = from_ l f := by
  rw [sub_all h]
  unfold from_
  apply List.filter_congr
  intro v hv
  have := h.mem v hv
  congr 1
  simp only [eq_iff_iff]
  omega
theorem from_zero {l : List V} (h : Srt 0 l) : from_ l 0 = l := by
  unfold from_
  rw [List.filter_eq_self]
  intro v hv
  have := (h.mem v hv).1
  simpa using this
theorem from_len (l : List V) (f : Int) : (from_ l f).length ≤ l.length := List.length_filter_le _ _

/-- What it promised, and its votes. -/
structure Acc where
  p : Int
  l : List V
def Acc.new : Acc := ⟨0, []⟩
structure Acc.Good (A : Acc) : Prop where
  p0 : 0 ≤ A.p
  p1 : A.p ≤ 1099511627776
  srt : Srt 0 A.l
  ok : ∀ v ∈ A.l, 1 ≤ v.b ∧ v.b ≤ A.p ∧ v.x.size ≤ 1024
theorem Acc.Good.len {A : Acc} (h : A.Good) : A.l.length ≤ 4096 := by have := h.srt.len (by omega); omega
theorem Acc.Good.new : Acc.new.Good := ⟨by decide, by decide, trivial, fun v hv => by cases hv⟩
/-- What Prepare answers, and leaves. -/
def prepE (A : Acc) (b : Int) : Int := if isB b then (if b < A.p then 5 else 0) else 1
def Acc.prep (A : Acc) (b : Int) : Acc := if prepE A b = 0 then ⟨b, A.l⟩ else A
def prepL (A : Acc) (b f : Int) : List V := if prepE A b = 0 then from_ A.l f else []
/-- What is wrong with a vote, whoever's. -/
def wrongE (v : V) : Int := if 0 ≤ v.s ∧ v.s < 4096 ∧ isB v.b then (if 1024 < v.x.size then 11 else 0) else 1
def accE (A : Acc) (v : V) : Int := if wrongE v = 0 then (if v.b < A.p then 5 else 0) else wrongE v
def Acc.accept (A : Acc) (v : V) : Acc := if accE A v = 0 then ⟨v.b, ins v A.l⟩ else A
theorem wrongE_zero {v : V} : wrongE v = 0 ↔ 0 ≤ v.s ∧ v.s < 4096 ∧ isB v.b ∧ v.x.size ≤ 1024 := by
  unfold wrongE
  split
  · rename_i h
    split
    · constructor
      · intro h; cases h
      · rintro ⟨-, -, -, h⟩; omega
    · exact ⟨fun _ => ⟨h.1, h.2.1, h.2.2, by omega⟩, fun _ => rfl⟩
  · rename_i h
    constructor
    · intro h; cases h
    · rintro ⟨h1, h2, h3, -⟩; exact absurd ⟨h1, h2, h3⟩ h
theorem accE_zero {A : Acc} {v : V} : accE A v = 0 ↔ wrongE v = 0 ∧ A.p ≤ v.b := by
  unfold accE
  split
  · rename_i h
    split
    · constructor
      · intro h; cases h
      · rintro ⟨-, h⟩; omega
    · exact ⟨fun _ => ⟨h, by omega⟩, fun _ => rfl⟩
  · rename_i h
    exact ⟨fun h' => absurd h' h, fun h' => absurd h'.1 h⟩
theorem prepE_zero {A : Acc} {b : Int} : prepE A b = 0 ↔ isB b ∧ A.p ≤ b := by
  unfold prepE
  split
  · rename_i h
    split
    · constructor
      · intro h; cases h
      · rintro ⟨-, h⟩; omega
    · exact ⟨fun _ => ⟨h, by omega⟩, fun _ => rfl⟩
  · rename_i h
    constructor
    · intro h; cases h
    · rintro ⟨h1, -⟩; exact absurd h1 h
theorem Acc.Good.prep {A : Acc} (h : A.Good) (b : Int) : (A.prep b).Good := by
  unfold Acc.prep
  split
  · rename_i he
    obtain ⟨h1, h2⟩ := prepE_zero.1 he
    exact ⟨by have := h1.1; show 0 ≤ b; omega, h1.2, h.srt, fun v hv => by have := h.ok v hv; exact ⟨this.1, by show v.b ≤ b; omega, this.2.2⟩⟩
  · exact h
theorem Acc.Good.accept {A : Acc} (h : A.Good) (v : V) : (A.accept v).Good := by
  unfold Acc.accept
  split
  · rename_i he
    obtain ⟨h1, h2⟩ := accE_zero.1 he
    obtain ⟨s0, s1, hb, hx⟩ := wrongE_zero.1 h1
    refine ⟨by have := hb.1; show 0 ≤ v.b; omega, hb.2, ins_srt h.srt v s0 s1, fun u hu => ?_⟩
    rcases ins_mem hu with rfl | hu
    · exact ⟨hb.1, Int.le_refl _, hx⟩
    · have := h.ok u hu
      exact ⟨this.1, by show u.b ≤ v.b; omega, this.2.2⟩
  · exact h

/-! ### bytes -/
/-- A vote's bytes. -/
def encV (v : V) : List Int := leb v.s 2 ++ leb v.b 8 ++ (leb (v.x.size : Int) 2 ++ nums v.x)
def encL (l : List V) : List Int := l.flatMap encV
def bodyOf (A : Acc) : List Int := leb A.p 8 ++ leb (A.l.length : Int) 2 ++ encL A.l
def sealOf (t : ByteArray) : ByteArray := t ++ four (sumOf t)
/-- What an acceptor is saved as. -/
def saveOf (A : Acc) : ByteArray := sealOf (strOfNums (bodyOf A))
theorem encV_len (v : V) : (encV v).length = 12 + v.x.size := by
  unfold encV
  rw [List.length_append, List.length_append, List.length_append, leb_len _ _ (by omega), leb_len _ _ (by omega), leb_len _ _ (by omega), nums_length]; omega
theorem encL_len (l : List V) (h : ∀ v ∈ l, v.x.size ≤ 1024) : (encL l).length ≤ l.length * 1036 := by
  induction l with
  | nil => simp [encL]
  | cons v l ih =>
    have h1 := ih fun u hu => h u (List.mem_cons_of_mem _ hu)
    have h2 := h v List.mem_cons_self
    unfold encL at h1 ⊢
    rw [List.flatMap_cons, List.length_append, encV_len, List.length_cons]; omega
theorem encL_snoc (l : List V) (v : V) : encL (l ++ [v]) = encL l ++ encV v := by simp [encL]
theorem byt_encV (v : V) : Byt (encV v) := ((byt_leb _ _).app (byt_leb _ _)).app ((byt_leb _ _).app (byt_nums _))
theorem byt_encL (l : List V) : Byt (encL l) := by
  intro x hx
  obtain ⟨v, _, hv⟩ := List.mem_flatMap.1 hx
  exact byt_encV v x hv
theorem Acc.Good.body_len {A : Acc} (h : A.Good) : (bodyOf A).length ≤ 4243466 := by
  have h1 := encL_len A.l fun v hv => (h.ok v hv).2.2
  have h2 := h.len
  unfold bodyOf
  rw [List.length_append, List.length_append, leb_len _ _ (by omega), leb_len _ _ (by omega)]
  omega
theorem nums_drop (t : ByteArray) (a : Nat) : nums (t.extract a t.size) = (nums t).drop a := by
  have h := extract_rest (nums t) a
  rw [str_nums] at h
  rw [h]
  unfold nums strOfNums
  simp only [List.map_map, List.map_drop]
  congr 1
  apply List.map_congr_left
  intro c _
  simp
theorem nums_extract (t : ByteArray) (a e : Nat) : nums (t.extract a e) = ((nums t).drop a).take (e - a) := by
  have h := extract_str (nums t) a e
  rw [str_nums] at h
  rw [h]
  unfold nums strOfNums
  simp only [List.map_map, List.map_drop, List.map_take]
  congr 2
  apply List.map_congr_left
  intro c _
  simp
theorem nums_get (s : ByteArray) (i : Nat) (h : i < s.size) : (nums s)[i]? = some (bt s i) := by
  have hb := byt_nums s
  have hl : i < (nums s).length := by rw [nums_length]; exact h
  have := bt_str (nums s) hb i hl
  rw [str_nums] at this
  rw [this, List.getElem?_eq_getElem hl]
theorem take_bt (s : ByteArray) (k : Nat) (h : k ≤ s.size) : (nums s).take k = (List.range k).map (bt s) := by
  apply List.ext_getElem?
  intro j
  rw [List.getElem?_take, List.getElem?_map]
  by_cases hj : j < k
  · rw [if_pos hj, nums_get s j (by omega), List.getElem?_range hj]; rfl
  · rw [if_neg hj, List.getElem?_eq_none (by simp; omega)]; rfl
theorem leb_lev1 (s : ByteArray) : leb (lev s 1) 1 = (List.range 1).map (bt s) := by
  have g0 := bt_nonneg s 0
  have l0 := bt_le s 0
  simp only [leb, List.take, List.range, List.range.loop, List.map, lev]
  congr 1
  omega
theorem leb_lev2 (s : ByteArray) : leb (lev s 2) 2 = (List.range 2).map (bt s) := by
  have g0 := bt_nonneg s 0
  have l0 := bt_le s 0
  have g1 := bt_nonneg s 1
  have l1 := bt_le s 1
  simp only [leb, List.take, List.range, List.range.loop, List.map, lev]
  congr 1
  · omega
  · congr 1
    omega
theorem leb_lev8 (s : ByteArray) : leb (lev s 8) 8 = (List.range 8).map (bt s) := by
  have g0 := bt_nonneg s 0
  have l0 := bt_le s 0
  have g1 := bt_nonneg s 1
  have l1 := bt_le s 1
  have g2 := bt_nonneg s 2
  have l2 := bt_le s 2
  have g3 := bt_nonneg s 3
  have l3 := bt_le s 3
  have g4 := bt_nonneg s 4
  have l4 := bt_le s 4
  have g5 := bt_nonneg s 5
  have l5 := bt_le s 5
  have g6 := bt_nonneg s 6
  have l6 := bt_le s 6
  have g7 := bt_nonneg s 7
  have l7 := bt_le s 7
  simp only [leb, List.take, List.range, List.range.loop, List.map, lev]
  refine List.cons_eq_cons.2 ⟨by omega, List.cons_eq_cons.2 ⟨by omega, List.cons_eq_cons.2 ⟨by omega, List.cons_eq_cons.2 ⟨by omega, List.cons_eq_cons.2 ⟨by omega, List.cons_eq_cons.2 ⟨by omega, List.cons_eq_cons.2 ⟨by omega, List.cons_eq_cons.2 ⟨by omega, rfl⟩⟩⟩⟩⟩⟩⟩⟩
theorem take_more (l : List Int) (a b : Nat) : l.take a ++ (l.drop a).take b = l.take (a + b) := by
  rw [List.take_add]
theorem openOf_form {s : ByteArray} (h : (openOf s).2 = true) : (openOf s).1 ++ four (sumOf (openOf s).1) = s := by
  unfold openOf at h ⊢
  split at h
  · rename_i hc
    rw [if_pos hc]
    show s.extract 0 (s.size - 4) ++ _ = s
    rw [← hc.2]; exact parts s _
  · cases h
theorem drop_pre (a b : List Int) (n : Nat) (h : a.length = n) : (a ++ b).drop n = b := by
  subst h; simp

/-! ### what is read -/
/-- The number of k bytes at place a. -/
def numAt (t : ByteArray) (a k : Nat) : Option Int :=
  if t.size < a + k then none else if 9223372036854775807 < lev (t.extract a t.size) k then none else some (lev (t.extract a t.size) k)
/-- The text at place a. -/
def textAt (t : ByteArray) (a : Nat) : Option ByteArray :=
  if t.size < a + 2 then none else if 1024 < lev (t.extract a t.size) 2 then none
  else if t.size < a + 2 + (lev (t.extract a t.size) 2).toNat then none else some (t.extract (a + 2) (a + 2 + (lev (t.extract a t.size) 2).toNat))
/-- The vote at place a. -/
def voteAt (t : ByteArray) (a : Nat) : Option V :=
  match numAt t a 2 with
  | none => none
  | some s => match numAt t (a + 2) 8 with
    | none => none
    | some b => match textAt t (a + 10) with
      | none => none
      | some x => some ⟨s, b, x⟩
/-- May v stand behind slot 'last', where p was promised? -/
def may (p last : Int) (v : V) : Prop := last < v.s ∧ v.s < 4096 ∧ 1 ≤ v.b ∧ v.b ≤ p
instance (p last : Int) (v : V) : Decidable (may p last v) := by unfold may; infer_instance
/-- n votes from place a on, to the end. -/
def rd (t : ByteArray) (p : Int) : Nat → Nat → Int → Option (List V)
  | 0, a, _ => if a = t.size then some [] else none
  | n + 1, a, last => match voteAt t a with
    | none => none
    | some v => if may p last v then (rd t p n (a + 12 + v.x.size) v.s).map (v :: ·) else none
def parse (t : ByteArray) : Option Acc :=
  match numAt t 0 8 with
  | none => none
  | some p => if p ≤ 1099511627776 then (match numAt t 8 2 with
    | none => none
    | some n => (rd t p n.toNat 10 (-1)).map (Acc.mk p)) else none
def loadOf (s : ByteArray) : Option Acc := if (openOf s).2 = true then parse (openOf s).1 else none

theorem lev_nonneg' (s : ByteArray) : ∀ k, 0 ≤ lev s k
  | 0 => by simp [lev]
  | k + 1 => by
    simp only [lev]
    exact Int.add_nonneg (lev_nonneg' s k) (Int.mul_nonneg (bt_nonneg s k) (Int.pow_nonneg (by decide)))
theorem numAt_some {t : ByteArray} {a k : Nat} {n : Int} (h : numAt t a k = some n) : a + k ≤ t.size ∧ n = lev (t.extract a t.size) k ∧ 0 ≤ n ∧ n ≤ 9223372036854775807 := by
  unfold numAt at h
  split at h
  · cases h
  · split at h
    · cases h
    · injection h with h
      have := lev_nonneg' (t.extract a t.size) k
      exact ⟨by omega, h.symm, by omega, by omega⟩
theorem numAt_bytes2 {t : ByteArray} {a : Nat} {n : Int} (h : numAt t a 2 = some n) : leb n 2 = ((nums t).drop a).take 2 := by
  obtain ⟨h1, rfl, -, -⟩ := numAt_some h
  rw [leb_lev2, ← nums_drop, ← take_bt _ _ (by rw [ByteArray.size_extract]; omega)]
theorem numAt_bytes8 {t : ByteArray} {a : Nat} {n : Int} (h : numAt t a 8 = some n) : leb n 8 = ((nums t).drop a).take 8 := by
  obtain ⟨h1, rfl, -, -⟩ := numAt_some h
  rw [leb_lev8, ← nums_drop, ← take_bt _ _ (by rw [ByteArray.size_extract]; omega)]
theorem numAt_lt2 {t : ByteArray} {a : Nat} {n : Int} (h : numAt t a 2 = some n) : n ≤ 65535 := by
  obtain ⟨h1, rfl, -, -⟩ := numAt_some h
  exact (lev2_bounds _).2
theorem textAt_some {t : ByteArray} {a : Nat} {x : ByteArray} (h : textAt t a = some x) : a + 2 + x.size ≤ t.size ∧ x.size ≤ 1024 ∧ leb (x.size : Int) 2 ++ nums x = ((nums t).drop a).take (2 + x.size) := by
  unfold textAt at h
  split at h
  · cases h
  · split at h
    · cases h
    · split at h
      · cases h
      · rename_i h1 h2 h3
        injection h with h
        subst h
        have h0 := lev2_bounds (t.extract a t.size)
        have hs : (t.extract (a + 2) (a + 2 + (lev (t.extract a t.size) 2).toNat)).size = (lev (t.extract a t.size) 2).toNat := by rw [ByteArray.size_extract]; omega
        rw [hs]
        refine ⟨by omega, by omega, ?_⟩
        have e1 : (((lev (t.extract a t.size) 2).toNat : Nat) : Int) = lev (t.extract a t.size) 2 := by omega
        rw [e1, leb_lev2, ← take_bt _ _ (by rw [ByteArray.size_extract]; omega), nums_drop, nums_extract, List.take_add, List.drop_drop]
        congr 2
        omega
theorem voteAt_some {t : ByteArray} {a : Nat} {v : V} (h : voteAt t a = some v) : numAt t a 2 = some v.s ∧ numAt t (a + 2) 8 = some v.b ∧ textAt t (a + 10) = some v.x := by
  unfold voteAt at h
  cases h1 : numAt t a 2 with
  | none => rw [h1] at h; cases h
  | some s =>
    cases h2 : numAt t (a + 2) 8 with
    | none => rw [h1, h2] at h; cases h
    | some b =>
      cases h3 : textAt t (a + 10) with
      | none => rw [h1, h2, h3] at h; cases h
      | some x => rw [h1, h2, h3] at h; injection h with h; subst h; exact ⟨rfl, rfl, rfl⟩
theorem voteAt_bytes {t : ByteArray} {a : Nat} {v : V} (h : voteAt t a = some v) : a + 12 + v.x.size ≤ t.size ∧ v.x.size ≤ 1024 ∧ 0 ≤ v.s ∧ encV v = ((nums t).drop a).take (12 + v.x.size) := by
  obtain ⟨h1, h2, h3⟩ := voteAt_some h
  obtain ⟨k1, k2, k3⟩ := textAt_some h3
  refine ⟨by omega, k2, (numAt_some h1).2.2.1, ?_⟩
  unfold encV
  obtain ⟨m, hm⟩ : ∃ m, m = 2 + v.x.size := ⟨_, rfl⟩
  rw [← hm] at k3
  have e10 : ((nums t).drop a).take 10 = ((nums t).drop a).take 2 ++ ((nums t).drop (a + 2)).take 8 := by rw [← List.drop_drop, take_more]
  rw [numAt_bytes2 h1, numAt_bytes8 h2, k3, show 12 + v.x.size = 10 + m by omega, List.take_add, e10, List.drop_drop]
theorem rd_bytes {t : ByteArray} {p : Int} {n a : Nat} {last : Int} {l : List V} (ha : a ≤ t.size) (h : rd t p n a last = some l) : l.length = n ∧ encL l = (nums t).drop a ∧ Srt (last + 1) l ∧ ∀ v ∈ l, 0 ≤ v.s ∧ 1 ≤ v.b ∧ v.b ≤ p ∧ v.x.size ≤ 1024 := by
  induction n generalizing a last l with
  | zero =>
    rw [rd] at h
    split at h
    · rename_i e
      injection h with h
      subst h
      refine ⟨rfl, ?_, trivial, fun v hv => by cases hv⟩
      rw [List.drop_of_length_le (by rw [nums_length]; omega)]; rfl
    · cases h
  | succ n ih =>
    rw [rd] at h
    cases hv : voteAt t a with
    | none => rw [hv] at h; cases h
    | some v =>
      rw [hv] at h
      simp only at h
      split at h
      · rename_i hm
        cases hr : rd t p n (a + 12 + v.x.size) v.s with
        | none => rw [hr] at h; cases h
        | some l' =>
          rw [hr] at h
          injection h with h
          subst h
          obtain ⟨b1, b2, b3, b4⟩ := voteAt_bytes hv
          obtain ⟨i1, i2, i3, i4⟩ := ih b1 hr
          refine ⟨by rw [List.length_cons, i1], ?_, ⟨by have := hm.1; omega, hm.2.1, i3⟩, fun u hu => ?_⟩
          · show encV v ++ encL l' = _
            rw [b4, i2, show a + 12 + v.x.size = a + (12 + v.x.size) by omega, ← List.drop_drop, List.take_append_drop]
          · rcases List.mem_cons.1 hu with rfl | hu
            · exact ⟨b3, hm.2.2.1, hm.2.2.2, b2⟩
            · exact i4 u hu
      · cases h
/-- What is read is an acceptor, with just these bytes. -/
theorem parse_some {t : ByteArray} {A : Acc} (h : parse t = some A) : A.Good ∧ strOfNums (bodyOf A) = t := by
  unfold parse at h
  cases h1 : numAt t 0 8 with
  | none => rw [h1] at h; cases h
  | some p =>
    rw [h1] at h
    simp only at h
    split at h
    · rename_i hp
      cases h2 : numAt t 8 2 with
      | none => rw [h2] at h; cases h
      | some n =>
        rw [h2] at h
        simp only at h
        cases h3 : rd t p n.toNat 10 (-1) with
        | none => rw [h3] at h; cases h
        | some l =>
          rw [h3] at h
          injection h with h
          subst h
          obtain ⟨n1, n2, n3, n4⟩ := numAt_some h1
          obtain ⟨m1, m2, m3, m4⟩ := numAt_some h2
          obtain ⟨r1, r2, r3, r4⟩ := rd_bytes (by omega) h3
          refine ⟨⟨n3, hp, r3, fun v hv => (r4 v hv).2⟩, ?_⟩
          have e : bodyOf ⟨p, l⟩ = nums t := by
            unfold bodyOf
            show leb p 8 ++ leb (l.length : Int) 2 ++ encL l = nums t
            rw [r1, show ((n.toNat : Nat) : Int) = n by omega, numAt_bytes8 h1, numAt_bytes2 h2, r2, List.drop_zero, take_more, List.take_append_drop]
          rw [e, str_nums]
    · cases h

/-! ### what was written is read -/
theorem numAt_str (pre post : List Int) (n : Int) (k a : Nat) (t : ByteArray) (ht : t = strOfNums (pre ++ (leb n k ++ post))) (ha : pre.length = a) (hf : Fits n (k : Int)) (hk : k ≤ 8) (hp : Byt post) : numAt t a k = some n := by
  have hs : t.size = a + k + post.length := by rw [ht, strOfNums_size, List.length_append, List.length_append, leb_len n k hk, ha]; omega
  have hv : lev (t.extract a t.size) k = n := by
    rw [ht, extract_rest, drop_pre _ _ _ ha]
    exact lev_leb n (k : Int) post hf hp
  have hn : n ≤ 9223372036854775807 := by unfold Fits at hf; omega
  unfold numAt
  rw [hv, if_neg (by omega), if_neg (by omega)]
theorem textAt_str (pre post : List Int) (x : ByteArray) (a : Nat) (t : ByteArray) (ht : t = strOfNums (pre ++ (leb (x.size : Int) 2 ++ nums x ++ post))) (ha : pre.length = a) (hx : x.size ≤ 1024) (hp : Byt post) : textAt t a = some x := by
  have hs : t.size = a + 2 + x.size + post.length := by
    rw [ht, strOfNums_size, List.length_append, List.length_append, List.length_append, leb_len _ 2 (by omega), nums_length, ha]; omega
  have hv : lev (t.extract a t.size) 2 = (x.size : Int) := by
    rw [ht, extract_rest, drop_pre _ _ _ ha, List.append_assoc]
    exact lev_leb _ 2 _ (by unfold Fits; omega) ((byt_nums _).app hp)
  unfold textAt
  rw [hv, if_neg (by omega), if_neg (by omega), if_neg (by omega)]
  congr 1
  rw [Int.toNat_natCast, ht, extract_str, ← List.drop_drop, drop_pre _ _ _ ha, List.append_assoc, drop_pre _ _ 2 (leb_len _ 2 (by omega)), show a + 2 + x.size - (a + 2) = x.size by omega]
  rw [List.take_append_of_le_length (by rw [nums_length]; omega), List.take_of_length_le (by rw [nums_length]; omega), str_nums]
theorem voteAt_str (pre post : List Int) (v : V) (a : Nat) (t : ByteArray) (ht : t = strOfNums (pre ++ (encV v ++ post))) (ha : pre.length = a) (hs0 : 0 ≤ v.s) (hs1 : v.s < 4096) (hb0 : 0 ≤ v.b) (hb1 : v.b ≤ 1099511627776) (hx : v.x.size ≤ 1024) (hp : Byt post) : voteAt t a = some v := by
  have h1 : numAt t a 2 = some v.s := numAt_str pre (leb v.b 8 ++ (leb (v.x.size : Int) 2 ++ nums v.x) ++ post) v.s 2 a t (by rw [ht]; unfold encV; simp [List.append_assoc]) ha (by unfold Fits; omega) (by omega) (((byt_leb _ _).app ((byt_leb _ _).app (byt_nums _))).app hp)
  have h2 : numAt t (a + 2) 8 = some v.b := numAt_str (pre ++ leb v.s 2) (leb (v.x.size : Int) 2 ++ nums v.x ++ post) v.b 8 (a + 2) t (by rw [ht]; unfold encV; simp [List.append_assoc]) (by rw [List.length_append, leb_len _ _ (by omega), ha]) (by unfold Fits; omega) (by omega) (((byt_leb _ _).app (byt_nums _)).app hp)
  have h3 : textAt t (a + 10) = some v.x := textAt_str (pre ++ leb v.s 2 ++ leb v.b 8) post v.x (a + 10) t (by rw [ht]; unfold encV; simp [List.append_assoc]) (by rw [List.length_append, List.length_append, leb_len _ _ (by omega), leb_len _ _ (by omega), ha]) hx hp
  unfold voteAt
  rw [h1, h2, h3]
theorem rd_str (p : Int) (hp : p ≤ 1099511627776) (t : ByteArray) : ∀ (l : List V) (pre : List Int) (a : Nat) (last : Int), t = strOfNums (pre ++ encL l) → pre.length = a → Srt (last + 1) l → (∀ v ∈ l, 0 ≤ v.s ∧ 1 ≤ v.b ∧ v.b ≤ p ∧ v.x.size ≤ 1024) → rd t p l.length a last = some l
  | [], pre, a, last, ht, ha, _, _ => by
    have hs : t.size = a := by rw [ht, strOfNums_size]; simpa [encL] using ha
    show (if a = t.size then _ else _) = _
    rw [if_pos hs.symm]
  | v :: l, pre, a, last, ht, ha, hs, ho => by
    obtain ⟨o1, o2, o3, o4⟩ := ho v List.mem_cons_self
    have hv := voteAt_str pre (encL l) v a t (by rw [ht]; rfl) ha o1 hs.2.1 (by omega) (by omega) o4 (byt_encL l)
    have hr := rd_str p hp t l (pre ++ encV v) (a + 12 + v.x.size) v.s (by rw [ht, List.append_assoc]; rfl) (by rw [List.length_append, encV_len, ha]; omega) hs.2.2 (fun u hu => ho u (List.mem_cons_of_mem _ hu))
    rw [List.length_cons, rd, hv]
    simp only
    rw [if_pos ⟨by have := hs.1; omega, hs.2.1, o2, o3⟩, hr]; rfl
theorem parse_body {A : Acc} (h : A.Good) : parse (strOfNums (bodyOf A)) = some A := by
  have h0 := h.p0
  have h1 := h.p1
  have h2 := h.len
  have n1 : numAt (strOfNums (bodyOf A)) 0 8 = some A.p := numAt_str [] (leb (A.l.length : Int) 2 ++ encL A.l) A.p 8 0 _ (by unfold bodyOf; simp [List.append_assoc]) rfl (by unfold Fits; omega) (by omega) ((byt_leb _ _).app (byt_encL _))
  have n2 : numAt (strOfNums (bodyOf A)) 8 2 = some (A.l.length : Int) := numAt_str (leb A.p 8) (encL A.l) (A.l.length : Int) 2 8 _ (by unfold bodyOf; simp [List.append_assoc]) (leb_len _ _ (by omega)) (by unfold Fits; omega) (by omega) (byt_encL _)
  have n3 := rd_str A.p h1 (strOfNums (bodyOf A)) A.l (leb A.p 8 ++ leb (A.l.length : Int) 2) 10 (-1) rfl (by rw [List.length_append, leb_len _ _ (by omega), leb_len _ _ (by omega)]) (h.srt.mono (by omega)) (fun v hv => ⟨(h.srt.mem v hv).1, h.ok v hv⟩)
  unfold parse
  rw [n1]
  simp only
  rw [if_pos h1, n2]
  simp only
  rw [Int.toNat_natCast, n3]; rfl
/-- What is saved is loaded. -/
theorem load_save {A : Acc} (h : A.Good) : loadOf (saveOf A) = some A := by
  unfold loadOf saveOf sealOf
  rw [openOf_yes, if_pos rfl]
  exact parse_body h
/-- What is loaded is saved as it was. -/
theorem load_some {s : ByteArray} {A : Acc} (h : loadOf s = some A) : A.Good ∧ saveOf A = s := by
  unfold loadOf at h
  split at h
  · rename_i ho
    obtain ⟨h1, h2⟩ := parse_some h
    refine ⟨h1, ?_⟩
    unfold saveOf sealOf
    rw [h2]
    exact openOf_form ho
  · cases h
theorem Acc.Good.save_size {A : Acc} (h : A.Good) : (saveOf A).size ≤ 4243470 := by
  unfold saveOf sealOf
  rw [ByteArray.size_append, strOfNums_size, four_size]
  have := h.body_len
  omega
end Go.Proofs.YtkcbmkedhipgeaaGreatDoor

namespace Go.Proofs.YtkcbmkedhipgeaaGreatDoor
open Go.RowKit

/-- Block b alone has turned, and new ones. -/
abbrev Fb (b : Nat) (w w' : World) : Prop := Fr b none w w'
theorem Fb.cell {b c o : Nat} {w w' : World} {v : Value} (h : Fb b w w') (hc : w.cell? ⟨c, o, none⟩ = some v) (hne : c ≠ b) : w'.cell? ⟨c, o, none⟩ = some v := by
  rw [World.cell?_of_block (w := w) (a := ⟨c, o, none⟩) (h.block c (World.block_lt_of_cell? w _ hc) hne (by simp))]; exact hc
theorem Fb.same {b : Nat} {w : World} : Fb b w w := Fr.refl b none w
theorem Fb.of_below {b : Nat} {w w' : World} (h : Below w.heap.size w w') : Fb b w w' := Fr.of_below h
theorem Fb.trans {b : Nat} {w w1 w2 : World} (h : Fb b w w1) (h' : Fb b w1 w2) : Fb b w w2 := Fr.trans h h'
theorem Fb.then_below {b : Nat} {w w1 w2 : World} (h : Fb b w w1) (h' : Below w1.heap.size w1 w2) : Fb b w w2 := Fb.trans h (Fb.of_below h')
theorem Fb.after_below {b : Nat} {w w1 w2 : World} (h : Below w.heap.size w w1) (h' : Fb b w1 w2) : Fb b w w2 := Fb.trans (Fb.of_below h) h'
theorem Fb.set {b : Nat} {w w1 : World} (h : Fb b w w1) (o : Nat) (v : Value) : Fb b w (w1.setCell ⟨b, o, none⟩ v) :=
  ⟨h.os, h.tape, h.output, by simp [World.setCell]; exact h.size, fun k hk hkb hkr => by
    rw [Below.heap_setCell _ _ _ _ (by simpa using hkb)]; exact h.block k hk hkb hkr⟩
theorem Fb.drew {b : Nat} {w w1 : World} (h : Fb b w w1) : Fb b w w1.drew := ⟨h.os, h.tape, h.output, h.size, h.block⟩
theorem below_drewN {B : Nat} {a w : World} (h : Below B a w) (n : Nat) : Below B a (w.drewN n) := ⟨h.os, h.tape, h.output, h.size, h.block⟩
theorem Fb.drewN {b : Nat} {w w1 : World} (h : Fb b w w1) (n : Nat) : Fb b w (w1.drewN n) := ⟨h.os, h.tape, h.output, h.size, h.block⟩
theorem Fb.below {b B : Nat} {w w' : World} (h : Fb b w w') (hB : B ≤ b) (hw : B ≤ w.heap.size) : Below B w w' :=
  ⟨h.os, h.tape, h.output, h.size, fun k hk => h.block k (by omega) (by omega) (by simp)⟩
theorem below_fb {b B : Nat} {w0 w w' : World} (h0 : Below B w0 w) (h : Fb b w w') (hB : B ≤ b) (hw : B ≤ w.heap.size) : Below B w0 w' := h0.trans (h.below hB hw)

theorem heap_setCell {w : World} {b : Nat} {cs : Array Value} {t : TypeId} {fr : Nat × Nat} (h : w.heap[b]? = some (.cells cs t fr)) (i : Nat) (v : Value) : (w.setCell ⟨b, i, none⟩ v).heap[b]? = some (.cells (cs.setIfInBounds i v) t fr) := by
  unfold World.setCell
  simp [Array.getElem?_modify, h]
/-- Two blocks of different types. -/
theorem type_ne {w : World} {a b : Nat} {s t : TypeId} {cs ds : Array Value} {f g : Nat × Nat} (ha : w.heap[a]? = some (.cells cs s f)) (hb : w.heap[b]? = some (.cells ds t g)) (ht : s ≠ t) : a ≠ b := fun e => by
  subst e
  rw [ha] at hb
  simp only [Option.some.injEq, Obj.cells.injEq] at hb
  exact ht hb.2.1
theorem row_ne {w : World} {a b : Nat} {s t : TypeId} {n m : Nat} {f g : Nat → Value} (ha : w.rowIs a s n f) (hb : w.rowIs b t m g) (ht : s ≠ t) : a ≠ b := by
  obtain ⟨c, h1, -⟩ := ha
  obtain ⟨d, h2, -⟩ := hb
  exact type_ne h1 h2 ht
theorem owns_type {w : World} {base e size n : Nat} {v : Value} {xs : List Value} (h : w.ownsRow base e size v n xs) {g : Nat} (hg : v.ownBlock = some g) : ∃ cur, w.heap[g]? = some (.cells cur e (0, 0)) := by
  rcases h.2 with ⟨rfl, _⟩ | ⟨g', cap, cur, rfl, _, hgg, _⟩
  · simp [Value.ownBlock] at hg
  · simp [Value.ownBlock] at hg; subst hg; exact ⟨cur, hgg⟩
theorem OwnsV.ne {e : TypeId} {w : World} {base : Nat} {v : Value} {l : List V} (h : OwnsV e w base v l) {b t m : Nat} {f : Nat → Value} (hr : w.rowIs b t m f) (ht : e ≠ t) : v.ownBlock ≠ some b := fun hg => by
  obtain ⟨cur, h1⟩ := owns_type h hg
  obtain ⟨c, h2, _⟩ := hr
  exact type_ne h1 h2 ht rfl
/-- A row of votes is as it was, where a block of another type has turned. -/
theorem OwnsV.fb {e : TypeId} {w w' : World} {base : Nat} {v : Value} {l : List V} (h : OwnsV e w base v l) {b t m : Nat} {f : Nat → Value} (hr : w.rowIs b t m f) (ht : e ≠ t) (hf : Fb b w w') : OwnsV e w' base v l :=
  h.kept fun g hg => hf.block g (h.lt hg).2 (fun e => h.ne hr ht (by rw [hg, e])) (by simp)

/-! ### the program's acceptor -/
/-- Its cells: what it promised, and of each slot where the vote lies. -/
def pa (p : Int) (ptr : Nat → Value) (o : Nat) : Value := if o = 0 then .int .i64 p else ptr (o - 1)
/-- ptr tells where the votes l lie, by slots. -/
def Ptrs (w : World) (l : List V) (ptr : Nat → Value) : Prop :=
  ∀ k : Nat, k < 4096 → (lk l (k : Int) = none → ptr k = .pointer none) ∧ ∀ v, lk l (k : Int) = some v → ∃ z, ptr k = .pointer (some ⟨z, 0, none⟩) ∧ AV 75 w z v
/-- The acceptor in block a. -/
def PC (w : World) (a : Nat) (p : Int) (l : List V) : Prop := ∃ ptr, w.rowIs a 103 4097 (pa p ptr) ∧ Ptrs w l ptr
section
variable {w w' : World} {a b : Nat} {p : Int} {l : List V}
theorem PC.lt (h : PC w a p l) : a < w.heap.size := by obtain ⟨ptr, h1, -⟩ := h; exact h1.lt
theorem PC.row (h : PC w a p l) : ∃ f, w.rowIs a 103 4097 f := by obtain ⟨ptr, h1, -⟩ := h; exact ⟨_, h1⟩
theorem PC.c0 (h : PC w a p l) : w.cell? ⟨a, 0, none⟩ = some (.int .i64 p) := by obtain ⟨ptr, h1, -⟩ := h; exact h1.cell (by omega)
theorem PC.free (h : PC w a p l) (o : Nat) : w.frozen? ⟨a, o, none⟩ = false := by obtain ⟨ptr, h1, -⟩ := h; exact h1.frozen o
/-- What lies at slot k. -/
theorem PC.slot (h : PC w a p l) (k : Nat) (hk : k < 4096) : ∃ x, w.cell? ⟨a, 1 + k, none⟩ = some x ∧ (lk l (k : Int) = none → x = .pointer none) ∧ ∀ v, lk l (k : Int) = some v → ∃ z, x = .pointer (some ⟨z, 0, none⟩) ∧ z < w.heap.size ∧ AV 75 w z v := by
  obtain ⟨ptr, h1, h2⟩ := h
  refine ⟨ptr k, ?_, (h2 k hk).1, fun v hv => ?_⟩
  · have := h1.cell (i := 1 + k) (by omega)
    rw [this]
    unfold pa
    rw [if_neg (by omega), Nat.add_sub_cancel_left]
  · obtain ⟨z, e, hz⟩ := (h2 k hk).2 v hv
    exact ⟨z, e, hz.lt, hz⟩
theorem PC.kept (h : PC w a p l) (ha : w'.heap[a]? = w.heap[a]?) (hv : ∀ z v, AV 75 w z v → w'.heap[z]? = w.heap[z]?) : PC w' a p l := by
  obtain ⟨ptr, h1, h2⟩ := h
  refine ⟨ptr, h1.of_block ha, fun k hk => ⟨(h2 k hk).1, fun v hl => ?_⟩⟩
  obtain ⟨z, e, hz⟩ := (h2 k hk).2 v hl
  exact ⟨z, e, hz.of_block (hv z v hz)⟩
theorem PC.below (h : PC w a p l) (hb : Below w.heap.size w w') : PC w' a p l := h.kept (hb.block a h.lt) fun z _ hz => hb.block z hz.lt
/-- Another block has turned, which is no vote. -/
theorem PC.fb (h : PC w a p l) {t n : Nat} {f : Nat → Value} (hr : w.rowIs b t n f) (ht : 75 ≠ t) (hne : a ≠ b) (hf : Fb b w w') : PC w' a p l := by
  refine h.kept (hf.block a h.lt hne (by simp)) fun z _ hz => hf.block z hz.lt (fun e => ?_) (by simp)
  obtain ⟨c, h2, -⟩ := hr
  exact type_ne hz h2 ht e
theorem PC.prom (h : PC w a p l) (q : Int) : PC (w.setCell ⟨a, 0, none⟩ (.int .i64 q)) a q l := by
  obtain ⟨ptr, h1, h2⟩ := h
  refine ⟨ptr, (h1.set 0 (.int .i64 q)).congr fun i hi => ?_, fun k hk => ⟨(h2 k hk).1, fun v hl => ?_⟩⟩
  · unfold pa
    by_cases h0 : i = 0
    · rw [if_pos h0, if_pos h0]
    · rw [if_neg h0, if_neg h0, if_neg h0]
  · obtain ⟨z, e, hz⟩ := (h2 k hk).2 v hl
    refine ⟨z, e, hz.of_block (Below.heap_setCell _ _ _ _ ?_)⟩
    obtain ⟨c, g2, -⟩ := h1
    exact type_ne hz g2 (by decide)
theorem PC.vote (h : PC w a p l) {lo : Int} (hs : Srt lo l) {z : Nat} {v : V} (hz : AV 75 w z v) (h0 : 0 ≤ v.s) (h1 : v.s < 4096) : PC (w.setCell ⟨a, 1 + v.s.toNat, none⟩ (.pointer (some ⟨z, 0, none⟩))) a p (ins v l) := by
  obtain ⟨ptr, g1, g2⟩ := h
  have hne : ∀ y u, AV 75 w y u → y ≠ a := fun y u hy => by
    obtain ⟨c, k2, -⟩ := g1
    exact type_ne hy k2 (by decide)
  refine ⟨fun k => if k = v.s.toNat then .pointer (some ⟨z, 0, none⟩) else ptr k, (g1.set (1 + v.s.toNat) (.pointer (some ⟨z, 0, none⟩))).congr fun i hi => ?_, fun k hk => ⟨fun hn => ?_, fun u hu => ?_⟩⟩
  · unfold pa
    by_cases e0 : i = 0
    · rw [if_neg (by omega), if_pos e0, if_pos e0]
    · by_cases e1 : i = 1 + v.s.toNat
      · rw [if_pos e1, if_neg e0]
        show _ = if i - 1 = v.s.toNat then _ else ptr (i - 1)
        rw [if_pos (by omega)]
      · rw [if_neg e1, if_neg e0, if_neg e0]
        show _ = if i - 1 = v.s.toNat then _ else ptr (i - 1)
        rw [if_neg (by omega)]
  · rw [lk_ins hs] at hn
    by_cases e : v.s = (k : Int)
    · rw [if_pos e] at hn; cases hn
    · rw [if_neg e] at hn
      show (if k = v.s.toNat then _ else ptr k) = _
      rw [if_neg (by omega)]; exact (g2 k hk).1 hn
  · rw [lk_ins hs] at hu
    by_cases e : v.s = (k : Int)
    · rw [if_pos e] at hu
      injection hu with hu
      subst hu
      refine ⟨z, ?_, hz.of_block (Below.heap_setCell _ _ _ _ (hne z v hz))⟩
      show (if k = v.s.toNat then _ else ptr k) = _
      rw [if_pos (by omega)]
    · rw [if_neg e] at hu
      obtain ⟨y, hy, hay⟩ := (g2 k hk).2 u hu
      refine ⟨y, ?_, hay.of_block (Below.heap_setCell _ _ _ _ (hne y u hay))⟩
      show (if k = v.s.toNat then _ else ptr k) = _
      rw [if_neg (by omega)]; exact hy
end
/-- The acceptor A in block a. -/
structure PA (w : World) (a : Nat) (A : Acc) : Prop where
  pc : PC w a A.p A.l
  good : A.Good

/-! ### the document's own -/
def ra (p : Int) (sv : Value) (o : Nat) : Value := if o = 0 then .int .i64 p else sv
def RC (w : World) (r : Nat) (p : Int) (l : List V) : Prop := ∃ sv, w.rowIs r 67 2 (ra p sv) ∧ OwnsV 78 w 0 sv l
section
variable {w w' : World} {r b : Nat} {p : Int} {l : List V}
theorem RC.lt (h : RC w r p l) : r < w.heap.size := by obtain ⟨sv, h1, -⟩ := h; exact h1.lt
theorem RC.row (h : RC w r p l) : ∃ f, w.rowIs r 67 2 f := by obtain ⟨ptr, h1, -⟩ := h; exact ⟨_, h1⟩
theorem RC.free (h : RC w r p l) (o : Nat) : w.frozen? ⟨r, o, none⟩ = false := by obtain ⟨ptr, h1, -⟩ := h; exact h1.frozen o
/-- Its cells, and its votes as one reads them. -/
theorem RC.form (h : RC w r p l) : w.cell? ⟨r, 0, none⟩ = some (.int .i64 p) ∧ ∃ A c, w.cell? ⟨r, 1, none⟩ = some (.slice A l.length c) ∧ OwnsV 78 w 0 (.slice A l.length c) l ∧ ∀ i m, l[i]? = some m → ∃ g, A = some ⟨g, 0, none⟩ ∧ g < w.heap.size ∧ g ≠ r ∧ VAt w g (i * 3) m := by
  obtain ⟨sv, h1, h2⟩ := h
  have hne := h2.ne h1 (by decide)
  have h3 := h2
  obtain ⟨A, c, rfl, hm⟩ := vshape h3
  refine ⟨h1.cell (by omega), A, c, h1.cell (by omega), h2, fun i m hi => ?_⟩
  obtain ⟨g, rfl, hg, hv⟩ := hm i m hi
  exact ⟨g, rfl, hg, fun e => hne (by rw [← e]; rfl), hv⟩
theorem RC.below (h : RC w r p l) (hb : Below w.heap.size w w') : RC w' r p l := by
  obtain ⟨sv, h1, h2⟩ := h
  exact ⟨sv, h1.of_block (hb.block r h1.lt), h2.below hb⟩
theorem RC.fb (h : RC w r p l) {t n : Nat} {f : Nat → Value} (hr : w.rowIs b t n f) (ht : 78 ≠ t) (hne : r ≠ b) (hf : Fb b w w') : RC w' r p l := by
  obtain ⟨sv, h1, h2⟩ := h
  exact ⟨sv, h1.of_block (hf.block r h1.lt hne (by simp)), h2.fb hr ht hf⟩
theorem RC.prom (h : RC w r p l) (q : Int) : RC (w.setCell ⟨r, 0, none⟩ (.int .i64 q)) r q l := by
  obtain ⟨sv, h1, h2⟩ := h
  refine ⟨sv, (h1.set 0 (.int .i64 q)).congr fun i hi => ?_, h2.kept fun g hg => Below.heap_setCell _ _ _ _ (fun e => h2.ne h1 (by decide) (by rw [hg, e]))⟩
  unfold ra
  by_cases h0 : i = 0
  · rw [if_pos h0, if_pos h0]
  · rw [if_neg h0, if_neg h0, if_neg h0]
theorem RC.votes (h : RC w r p l) {base : Nat} {sv : Value} {k : List V} (ho : OwnsV 78 w base sv k) : RC (w.setCell ⟨r, 1, none⟩ sv) r p k := by
  obtain ⟨sv0, h1, h2⟩ := h
  refine ⟨sv, (h1.set 1 sv).congr fun i hi => ?_, (ho.mono (Nat.zero_le _)).kept fun g hg => Below.heap_setCell _ _ _ _ (fun e => ho.ne h1 (by decide) (by rw [hg, e]))⟩
  unfold ra
  by_cases h0 : i = 0
  · rw [if_neg (by omega), if_pos h0, if_pos h0]
  · rw [if_neg h0, if_pos (by omega), if_neg h0]
end
structure RA (w : World) (r : Nat) (A : Acc) : Prop where
  rc : RC w r A.p A.l
  good : A.Good
end Go.Proofs.YtkcbmkedhipgeaaGreatDoor
