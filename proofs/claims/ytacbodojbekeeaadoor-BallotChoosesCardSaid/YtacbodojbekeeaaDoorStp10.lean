/-
  A vote, and lists of calls, that came in, opened to their cells.
-/
import Derived.Test.YtacbodojbekeeaaDoorDoorBoth
import Derived.Test.YtacbodojbekeeaaDoorMem
import Derived.Deep.Slices
import Derived.Deep.Fields
import Derived.Carry
import Derived.ProofKit
import Derived.Lib.SmallJoins
namespace Go.Proofs.YtacbodojbekeeaaDoor
open Go.ChangeShapes Go.WideShapes Go.RowKit Go.Deep

theorem laidOutK : laidOutB Tryd.prog = true := by kernel_rfl
set_option maxRecDepth 100000 in
/-- A vote's cells, as a reading finds them. -/
theorem vt_cells {H : Type} {enc : TypeId × Value → H} {w : World} {base n : Nat} {spare : Nat → Bool} {held : Bool} {cs : List Value} {x : DataW H × List MemPlace} (h : DataW.trod enc Tryd.prog w base spare held n 32 cs = some x) :
    ∃ b : V, cs = b.cells.toList ∧ b.x.size ≤ 9223372036854775807 := by
  obtain ⟨ys, n', _, _, hlen, hyl, hf⟩ := DataW.trod_struct Tryd.underlying32 h
  have hlen : cs.length = 3 := hlen.trans (by kernel_rfl)
  match cs, hlen with
  | [c0, c1, c2], _ =>
    have hy : ∀ j, j < 3 → ∃ y, ys[j]? = some y := fun j hj => ⟨_, List.getElem?_eq_getElem (by rw [hyl]; exact hj)⟩
    obtain ⟨y0, g0⟩ := hy 0 (by omega)
    obtain ⟨y1, g1⟩ := hy 1 (by omega)
    obtain ⟨y2, g2⟩ := hy 2 (by omega)
    have t0 : DataW.trod enc Tryd.prog w base spare held n' 3 (([c0, c1, c2].drop 0).take (Tryd.prog.cellsOf 3)) = some y0 := (hf 0 _ rfl).trans g0
    have t1 : DataW.trod enc Tryd.prog w base spare held n' 3 (([c0, c1, c2].drop 1).take (Tryd.prog.cellsOf 3)) = some y1 := (hf 1 _ rfl).trans g1
    have t2 : DataW.trod enc Tryd.prog w base spare held n' 9 (([c0, c1, c2].drop 2).take (Tryd.prog.cellsOf 9)) = some y2 := (hf 2 _ rfl).trans g2
    have z : Tryd.prog.cellsOf 3 = 1 := by kernel_rfl
    have zs : Tryd.prog.cellsOf 9 = 1 := by kernel_rfl
    simp only [z, zs, List.drop_succ_cons, List.drop_zero, List.take_succ_cons, List.take_zero] at t0 t1 t2
    obtain ⟨q0, e0, -, -⟩ := DataW.trod_int Tryd.underlying3 t0
    obtain ⟨q1, e1, -, -⟩ := DataW.trod_int Tryd.underlying3 t1
    obtain ⟨q2, e2, -, w2⟩ := DataW.trod_string Tryd.underlying9 t2
    simp only [List.cons.injEq, and_true] at e0 e1 e2
    subst e0 e1 e2
    exact ⟨⟨q0, q1, q2⟩, rfl, by unfold maxLen at w2; show q2.size ≤ _; omega⟩
set_option maxRecDepth 100000 in
/-- A vote that an argument is. -/
theorem open_vt {H : Type} {enc : TypeId × Value → H} {W : World} {base b0 : Nat} {spare : Nat → Bool} {held : Bool} {r : Reach} {v : Value} {d : DataW H} {p : List MemPlace} (hv : Value.okWide Tryd.prog W r b0 32 v) (h : DataW.Trod enc Tryd.prog W base spare held 32 v d p) : ∃ q : V, v = q.val ∧ q.x.size ≤ 9223372036854775807 := by
  obtain ⟨cs, rfl, -⟩ := okWide_struct Tryd.underlying32 hv
  obtain ⟨fuel, hf⟩ := h
  obtain ⟨m, hm, h1⟩ := vt_cells (by simpa [Value.cells] using hf)
  exact ⟨m, by rw [show cs = m.cells from Array.toList_inj.1 hm], h1⟩

/-- A call: its kind, a ballot, a slot, a vote. -/
structure Stp where
  kind : Int
  b : Int
  i : Int
  v : V
@[reducible] def Stp.cells (o : Stp) : Array Value := #[.int .i64 o.kind, .int .i64 o.b, .int .i64 o.i, .int .i64 o.v.s, .int .i64 o.v.b, .string o.v.x]
def Stp.val (o : Stp) : Value := .agg #[.int .i64 o.kind, .int .i64 o.b, .int .i64 o.i, .int .i64 o.v.s, .int .i64 o.v.b, .string o.v.x]
/-- Its cells, from offset o of block g on. -/
def StAt (w : World) (g o : Nat) (x : Stp) : Prop := w.cell? ⟨g, o, none⟩ = some (.int .i64 x.kind) ∧ w.cell? ⟨g, o + 1, none⟩ = some (.int .i64 x.b) ∧ w.cell? ⟨g, o + 2, none⟩ = some (.int .i64 x.i) ∧ w.cell? ⟨g, o + 3, none⟩ = some (.int .i64 x.v.s) ∧ w.cell? ⟨g, o + 4, none⟩ = some (.int .i64 x.v.b) ∧ w.cell? ⟨g, o + 5, none⟩ = some (.string x.v.x)
theorem StAt.below {w w' : World} {B g o : Nat} {x : Stp} (h : StAt w g o x) (hb : Below B w w') (hg : g < B) : StAt w' g o x := by
  obtain ⟨h0, h1, h2, h3, h4, h5⟩ := h
  exact ⟨(hb.cell (p := ⟨g, o, none⟩) hg).trans h0, (hb.cell (p := ⟨g, o + 1, none⟩) hg).trans h1, (hb.cell (p := ⟨g, o + 2, none⟩) hg).trans h2, (hb.cell (p := ⟨g, o + 3, none⟩) hg).trans h3, (hb.cell (p := ⟨g, o + 4, none⟩) hg).trans h4, (hb.cell (p := ⟨g, o + 5, none⟩) hg).trans h5⟩
/-- The step is all that block b has. -/
def AS (w : World) (b : Nat) (x : Stp) : Prop := w.heap[b]? = some (.cells x.cells 34 (0, 0))
theorem AS.fresh (w : World) (x : Stp) : AS (w.alloc (.cells x.cells 34)) w.heap.size x := heap_alloc_new w _
theorem AS.lt {w : World} {b : Nat} {x : Stp} (h : AS w b x) : b < w.heap.size := (Array.getElem?_eq_some_iff.1 h).1
theorem AS.of_block {w w' : World} {b : Nat} {x : Stp} (h : AS w b x) (hb : w'.heap[b]? = w.heap[b]?) : AS w' b x := by unfold AS; rw [hb]; exact h
theorem AS.below {w w' : World} {b : Nat} {x : Stp} (h : AS w b x) (hb : Below w.heap.size w w') : AS w' b x := h.of_block (hb.block b h.lt)
theorem AS.fb {w w' : World} {b c : Nat} {x : Stp} (h : AS w b x) {t n : TypeId} {f : Nat → Value} (hr : w.rowIs c t n f) (ht : 34 ≠ t) (hf : Fb c w w') : AS w' b x := by
  obtain ⟨cs, h2, -⟩ := hr
  exact h.of_block (hf.block b h.lt (type_ne h h2 ht) (by simp))
theorem AS.cell {w : World} {b : Nat} {x : Stp} (h : AS w b x) (i : Nat) : w.cell? ⟨b, i, none⟩ = x.cells[i]? := by
  unfold World.cell?; simp only [show w.heap[b]? = _ from h]; rfl
theorem AS.all {w : World} {b : Nat} {x : Stp} (h : AS w b x) : w.cell? ⟨b, 0, none⟩ = some (.int .i64 x.kind) ∧ w.cell? ⟨b, 1, none⟩ = some (.int .i64 x.b) ∧ w.cell? ⟨b, 2, none⟩ = some (.int .i64 x.i) ∧ w.cell? ⟨b, 3, none⟩ = some (.int .i64 x.v.s) ∧ w.cell? ⟨b, 4, none⟩ = some (.int .i64 x.v.b) ∧ w.cell? ⟨b, 5, none⟩ = some (.string x.v.x) :=
  ⟨h.cell 0, h.cell 1, h.cell 2, h.cell 3, h.cell 4, h.cell 5⟩
/-- A list of calls that came in. -/
def SIn (w : World) (A : Option Addr) (n : Nat) (st : Nat → Stp) : Prop := ∀ i, i < n → ∃ g off, A = some ⟨g, off, none⟩ ∧ g < w.heap.size ∧ StAt w g (off + i * 6) (st i)
theorem SIn.cells {w w' : World} {A : Option Addr} {n i : Nat} {st : Nat → Stp} (h : SIn w A n st) (hb : Below w.heap.size w w') (hi : i < n) : ∃ g off, A = some ⟨g, off, none⟩ ∧ StAt w' g (off + i * 6) (st i) := by
  obtain ⟨g, off, e, hg, hc⟩ := h i hi
  exact ⟨g, off, e, hc.below hb hg⟩

set_option maxRecDepth 100000 in
/-- A call's cells, as a reading finds them. -/
theorem stp_cells {H : Type} {enc : TypeId × Value → H} {w : World} {base n : Nat} {spare : Nat → Bool} {held : Bool} {cs : List Value} {x : DataW H × List MemPlace} (h : DataW.trod enc Tryd.prog w base spare held n 34 cs = some x) :
    ∃ o : Stp, cs = o.cells.toList := by
  obtain ⟨ys, n', _, _, hlen, hyl, hf⟩ := DataW.trod_struct Tryd.underlying34 h
  have hlen : cs.length = 6 := hlen.trans (by kernel_rfl)
  match cs, hlen with
  | [c0, c1, c2, c3, c4, c5], _ =>
    have hy : ∀ j, j < 4 → ∃ y, ys[j]? = some y := fun j hj => ⟨_, List.getElem?_eq_getElem (by rw [hyl]; exact hj)⟩
    obtain ⟨y0, g0⟩ := hy 0 (by omega)
    obtain ⟨y1, g1⟩ := hy 1 (by omega)
    obtain ⟨y2, g2⟩ := hy 2 (by omega)
    obtain ⟨y3, g3⟩ := hy 3 (by omega)
    have t0 : DataW.trod enc Tryd.prog w base spare held n' 3 (([c0, c1, c2, c3, c4, c5].drop 0).take (Tryd.prog.cellsOf 3)) = some y0 := (hf 0 _ rfl).trans g0
    have t1 : DataW.trod enc Tryd.prog w base spare held n' 3 (([c0, c1, c2, c3, c4, c5].drop 1).take (Tryd.prog.cellsOf 3)) = some y1 := (hf 1 _ rfl).trans g1
    have t2 : DataW.trod enc Tryd.prog w base spare held n' 3 (([c0, c1, c2, c3, c4, c5].drop 2).take (Tryd.prog.cellsOf 3)) = some y2 := (hf 2 _ rfl).trans g2
    have t3 : DataW.trod enc Tryd.prog w base spare held n' 32 (([c0, c1, c2, c3, c4, c5].drop 3).take (Tryd.prog.cellsOf 32)) = some y3 := (hf 3 _ rfl).trans g3
    have z : Tryd.prog.cellsOf 3 = 1 := by kernel_rfl
    have zb : Tryd.prog.cellsOf 32 = 3 := by kernel_rfl
    simp only [z, zb, List.drop_succ_cons, List.drop_zero, List.take_succ_cons, List.take_zero] at t0 t1 t2 t3
    obtain ⟨q0, e0, -, -⟩ := DataW.trod_int Tryd.underlying3 t0
    obtain ⟨q1, e1, -, -⟩ := DataW.trod_int Tryd.underlying3 t1
    obtain ⟨q2, e2, -, -⟩ := DataW.trod_int Tryd.underlying3 t2
    obtain ⟨q3, e3, -⟩ := vt_cells t3
    simp only [List.cons.injEq, and_true] at e0 e1 e2 e3
    subst e0 e1 e2
    obtain ⟨rfl, rfl, rfl⟩ := e3
    exact ⟨⟨q0, q1, q2, q3⟩, rfl⟩
def stp0 : Stp := ⟨0, 0, 0, V.zero⟩
set_option maxRecDepth 100000 in
/-- The list of calls that an argument is. -/
theorem open_stps {H : Type} {enc : TypeId × Value → H} {W : World} {held : Bool} {spare : Nat → Bool} {v : Value} {d : DataW H} {p : List MemPlace} (hv : ∃ a len cap, v = .slice a len cap) (h : DataW.Trod enc Tryd.prog W 0 spare held 22 v d p) :
    ∃ A n c st, v = .slice A n c ∧ n ≤ 9223372036854775807 ∧ SIn W A n st := by
  obtain ⟨a0, len, cap, rfl⟩ := hv
  obtain ⟨fuel, hf⟩ := h
  have hf' : DataW.trod enc Tryd.prog W 0 spare held fuel 22 [.slice a0 len cap] = some (d, p) := by simpa [Value.cells] using hf
  have zc : Tryd.prog.cellsOf 34 = 6 := by kernel_rfl
  rcases open_slice Tryd.underlying22 hf' with ⟨hc, _⟩ | ⟨a, len', cap', m, n, D, Pl, hcs, _, hl, hm, hmm, _, hi⟩
  · simp only [List.cons.injEq, Value.slice.injEq, and_true] at hc
    obtain ⟨rfl, rfl, rfl⟩ := hc
    exact ⟨none, 0, 0, fun _ => stp0, rfl, by omega, fun i hi => by omega⟩
  · simp only [List.cons.injEq, Value.slice.injEq, and_true] at hcs
    obtain ⟨rfl, rfl, rfl⟩ := hcs
    have hlm : len ≤ m := by rw [hmm]; split <;> omega
    have key : ∀ i, ∃ o : Stp, i < len → ∃ b off, some a = some ⟨b, off, none⟩ ∧ b < W.heap.size ∧ StAt W b (off + i * 6) o := by
      intro i
      by_cases hlt : i < len
      · obtain ⟨cs', hc, ht'⟩ := hi i (by omega)
        obtain ⟨o, ho⟩ := stp_cells ht'
        rw [zc] at hc
        obtain ⟨_, hcl, hat⟩ := World.cells?_some hc
        subst ho
        obtain ⟨b, off, spot⟩ := a
        have hspot : spot = none := by
          obtain ⟨cs0, hc0, _⟩ := hi 0 (by omega)
          rw [zc] at hc0
          obtain ⟨_, hcl0, hat0⟩ := World.cells?_some hc0
          have h0 := (hat0 0 (by omega)).trans (List.getElem?_eq_getElem (by omega))
          simpa [Addr.add] using World.cell?_spot h0
        subst hspot
        refine ⟨o, fun _ => ⟨b, off, rfl, ?_⟩⟩
        have hx : ∀ j, j < 6 → W.cell? ⟨b, off + i * 6 + j, none⟩ = o.cells.toList[j]? := fun j hj => by
          have := hat j hj
          rw [Go.WideShapes.add_plain, Go.WideShapes.add_plain] at this
          exact this
        exact ⟨World.block_lt_of_cell? W _ (hx 0 (by omega)), ⟨hx 0 (by omega), hx 1 (by omega), hx 2 (by omega), hx 3 (by omega), hx 4 (by omega), hx 5 (by omega)⟩⟩
      · exact ⟨stp0, fun h => absurd h hlt⟩
    obtain ⟨f, hf⟩ := Classical.skolem.1 key
    exact ⟨some a, len, cap, f, rfl, by unfold maxLen at hm; omega, fun i hi => hf i hi⟩
end Go.Proofs.YtacbodojbekeeaaDoor
