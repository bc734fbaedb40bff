/-
  Orders, configs, numbers that came in, opened to their cells.
-/
import Derived.Test.YthjinpbclfankaaRows
import Derived.Test.YthjinpbclfankaaAft
import Derived.Deep.Slices
import Derived.Deep.Fields
import Derived.Carry
import Derived.ProofKit
import Derived.Lib.SmallJoins
namespace Go.Proofs.Ythjinpbclfankaa
open Go.ChangeShapes Go.WideShapes Go.RowKit Go.Deep

theorem laidOutK : laidOutB Try.prog = true := by kernel_rfl
theorem ownK : ownKnob Try.prog.godebug = none := by kernel_rfl
theorem wf_u8 {x : Int} (h : (Lit.int .u8 x).wf = true) : ∃ n : Nat, x = (n : Int) ∧ n < 256 := by
  simp only [Lit.wf, Bool.and_eq_true, decide_eq_true_eq] at h
  have e1 : IntKind.u8.min = 0 := by decide
  have e2 : IntKind.u8.max = 255 := by decide
  rw [e1, e2] at h
  exact ⟨x.toNat, by omega, by omega⟩
theorem cell_lt {w : World} {a : Addr} {v : Value} (h : w.cell? a = some v) : a.block < w.heap.size := by
  by_cases hl : a.block < w.heap.size
  · exact hl
  · exfalso
    unfold World.cell? at h
    rw [Array.getElem?_eq_none (by omega)] at h
    cases h
/-- The cells of a range. -/
theorem rg_cells {H : Type} {enc : TypeId × Value → H} {w : World} {base n : Nat} {spare : Nat → Bool} {held : Bool} {cs : List Value} {x : DataW H × List MemPlace} (h : DataW.trod enc Try.prog w base spare held n 28 cs = some x) : ∃ f t : Int, cs = [.int .i64 f, .int .i64 t] := by
  obtain ⟨ys, n', _, _, hlen, hyl, hf⟩ := DataW.trod_struct Try.underlying28 h
  have hlen : cs.length = 2 := hlen.trans (by kernel_rfl)
  match cs, hlen with
  | [c0, c1], _ =>
    have hy : ∀ j, j < 2 → ∃ y, ys[j]? = some y := fun j hj => ⟨_, List.getElem?_eq_getElem (by rw [hyl]; exact hj)⟩
    obtain ⟨y0, g0⟩ := hy 0 (by omega)
    obtain ⟨y1, g1⟩ := hy 1 (by omega)
    have t0 : DataW.trod enc Try.prog w base spare held n' 3 (([c0, c1].drop 0).take (Try.prog.cellsOf 3)) = some y0 := (hf 0 _ rfl).trans g0
    have t1 : DataW.trod enc Try.prog w base spare held n' 3 (([c0, c1].drop 1).take (Try.prog.cellsOf 3)) = some y1 := (hf 1 _ rfl).trans g1
    have z : Try.prog.cellsOf 3 = 1 := by kernel_rfl
    simp only [z, List.drop_succ_cons, List.drop_zero, List.take_succ_cons, List.take_zero] at t0 t1
    obtain ⟨q0, e0, -, -⟩ := DataW.trod_int Try.underlying3 t0
    obtain ⟨q1, e1, -, -⟩ := DataW.trod_int Try.underlying3 t1
    simp only [List.cons.injEq, and_true] at e0 e1
    subst e0 e1
    exact ⟨q0, q1, rfl⟩
/-- The cells of an order. -/
theorem od_cells {H : Type} {enc : TypeId × Value → H} {w : World} {base n : Nat} {spare : Nat → Bool} {held : Bool} {cs : List Value} {x : DataW H × List MemPlace} (h : DataW.trod enc Try.prog w base spare held n 30 cs = some x) : ∃ o : Od, cs = o.cells.toList := by
  obtain ⟨ys, n', _, _, hlen, hyl, hf⟩ := DataW.trod_struct Try.underlying30 h
  have hlen : cs.length = 5 := hlen.trans (by kernel_rfl)
  match cs, hlen with
  | [c0, c1, c2, c3, c4], _ =>
    have hy : ∀ j, j < 4 → ∃ y, ys[j]? = some y := fun j hj => ⟨_, List.getElem?_eq_getElem (by rw [hyl]; exact hj)⟩
    obtain ⟨y0, g0⟩ := hy 0 (by omega)
    obtain ⟨y1, g1⟩ := hy 1 (by omega)
    obtain ⟨y2, g2⟩ := hy 2 (by omega)
    obtain ⟨y3, g3⟩ := hy 3 (by omega)
    have t0 : DataW.trod enc Try.prog w base spare held n' 3 (([c0, c1, c2, c3, c4].drop 0).take (Try.prog.cellsOf 3)) = some y0 := (hf 0 _ rfl).trans g0
    have t1 : DataW.trod enc Try.prog w base spare held n' 3 (([c0, c1, c2, c3, c4].drop 1).take (Try.prog.cellsOf 3)) = some y1 := (hf 1 _ rfl).trans g1
    have t2 : DataW.trod enc Try.prog w base spare held n' 3 (([c0, c1, c2, c3, c4].drop 2).take (Try.prog.cellsOf 3)) = some y2 := (hf 2 _ rfl).trans g2
    have t3 : DataW.trod enc Try.prog w base spare held n' 28 (([c0, c1, c2, c3, c4].drop 3).take (Try.prog.cellsOf 28)) = some y3 := (hf 3 _ rfl).trans g3
    have z : Try.prog.cellsOf 3 = 1 := by kernel_rfl
    have zm : Try.prog.cellsOf 28 = 2 := by kernel_rfl
    simp only [z, zm, List.drop_succ_cons, List.drop_zero, List.take_succ_cons, List.take_zero] at t0 t1 t2 t3
    obtain ⟨q0, e0, -, -⟩ := DataW.trod_int Try.underlying3 t0
    obtain ⟨q1, e1, -, -⟩ := DataW.trod_int Try.underlying3 t1
    obtain ⟨q2, e2, -, -⟩ := DataW.trod_int Try.underlying3 t2
    obtain ⟨q3, q4, e3⟩ := rg_cells t3
    simp only [List.cons.injEq, and_true] at e0 e1 e2 e3
    subst e0 e1 e2
    obtain ⟨rfl, rfl⟩ := e3
    exact ⟨⟨q0, q1, q2, q3, q4⟩, rfl⟩
/-- The cells of a part. -/
theorem pt_cells {H : Type} {enc : TypeId × Value → H} {w : World} {base n : Nat} {spare : Nat → Bool} {held : Bool} {cs : List Value} {x : DataW H × List MemPlace} (h : DataW.trod enc Try.prog w base spare held n 63 cs = some x) : ∃ p : Pt, cs = p.cells.toList := by
  obtain ⟨ys, n', _, _, hlen, hyl, hf⟩ := DataW.trod_struct Try.underlying63 h
  have hlen : cs.length = 4 := hlen.trans (by kernel_rfl)
  match cs, hlen with
  | [c0, c1, c2, c3], _ =>
    have hy : ∀ j, j < 3 → ∃ y, ys[j]? = some y := fun j hj => ⟨_, List.getElem?_eq_getElem (by rw [hyl]; exact hj)⟩
    obtain ⟨y0, g0⟩ := hy 0 (by omega)
    obtain ⟨y1, g1⟩ := hy 1 (by omega)
    obtain ⟨y2, g2⟩ := hy 2 (by omega)
    have t0 : DataW.trod enc Try.prog w base spare held n' 28 (([c0, c1, c2, c3].drop 0).take (Try.prog.cellsOf 28)) = some y0 := (hf 0 _ rfl).trans g0
    have t1 : DataW.trod enc Try.prog w base spare held n' 3 (([c0, c1, c2, c3].drop 2).take (Try.prog.cellsOf 3)) = some y1 := (hf 1 _ rfl).trans g1
    have t2 : DataW.trod enc Try.prog w base spare held n' 3 (([c0, c1, c2, c3].drop 3).take (Try.prog.cellsOf 3)) = some y2 := (hf 2 _ rfl).trans g2
    have z : Try.prog.cellsOf 3 = 1 := by kernel_rfl
    have zm : Try.prog.cellsOf 28 = 2 := by kernel_rfl
    simp only [z, zm, List.drop_succ_cons, List.drop_zero, List.take_succ_cons, List.take_zero] at t0 t1 t2
    obtain ⟨q0, q1, e0⟩ := rg_cells t0
    obtain ⟨q2, e1, -, -⟩ := DataW.trod_int Try.underlying3 t1
    obtain ⟨q3, e2, -, -⟩ := DataW.trod_int Try.underlying3 t2
    simp only [List.cons.injEq, and_true] at e0 e1 e2
    subst e1 e2
    obtain ⟨rfl, rfl⟩ := e0
    exact ⟨⟨q0, q1, q2, q3⟩, rfl⟩

/-- A slice of structs, by what one's cells are. -/
theorem open_row {H : Type} {enc : TypeId × Value → H} {W : World} {base : Nat} {held : Bool} {spare : Nat → Bool} {α : Type} [Inhabited α] {t e : TypeId} {z : Nat} {cells : α → List Value} (ht : Try.prog.underlying t = some (.slice e)) (hz : Try.prog.cellsOf e = z) (hz0 : 0 < z)
    (hc : ∀ n cs x, DataW.trod enc Try.prog W base spare held n e cs = some x → ∃ o : α, cs = cells o) {fuel : Nat} {cv : Value} {x : DataW H × List MemPlace} (h : DataW.trod enc Try.prog W base spare held fuel t [cv] = some x) :
    ∃ (A : Option Addr) (l : List α) (cap : Nat), cv = .slice A l.length cap ∧ l.length ≤ 9223372036854775807 ∧ ∀ i o, l[i]? = some o → ∃ g off, A = some ⟨g, off, none⟩ ∧ g < W.heap.size ∧ ∀ j, j < z → W.cell? ⟨g, off + i * z + j, none⟩ = (cells o)[j]? := by
  rcases open_slice ht h with ⟨hcs, _⟩ | ⟨a, len', cap', m, n, D, Pl, hcs, _, hl, hm, hmm, _, hi⟩
  · simp only [List.cons.injEq, and_true] at hcs
    exact ⟨none, [], 0, hcs, by simp, fun i o h => by simp at h⟩
  · simp only [List.cons.injEq, and_true] at hcs
    have hlm : len' ≤ m := by rw [hmm]; split <;> omega
    have key : ∀ i, i < len' → ∃ o : α, ∃ b off, a = ⟨b, off, none⟩ ∧ b < W.heap.size ∧ ∀ j, j < z → W.cell? ⟨b, off + i * z + j, none⟩ = (cells o)[j]? := by
      intro i hlt
      obtain ⟨cs', hc1, ht'⟩ := hi i (by omega)
      obtain ⟨o, ho⟩ := hc _ _ _ ht'
      rw [hz] at hc1
      obtain ⟨_, hcl, hat⟩ := World.cells?_some hc1
      subst ho
      obtain ⟨b, off, spot⟩ := a
      have hspot : spot = none ∧ b < W.heap.size := by
        obtain ⟨cs0, hc0, _⟩ := hi 0 (by omega)
        rw [hz] at hc0
        obtain ⟨_, hcl0, hat0⟩ := World.cells?_some hc0
        have h0 := (hat0 0 (by omega)).trans (List.getElem?_eq_getElem (by omega))
        have h1 := World.cell?_spot h0
        have h2 := cell_lt h0
        refine ⟨by simpa [Addr.add] using h1, ?_⟩
        have e3 : ∀ (p : Addr) (k : Nat), (p.add k).block = p.block := fun p k => by unfold Addr.add; split <;> rfl
        rw [e3, e3] at h2
        exact h2
      obtain ⟨rfl, hb⟩ := hspot
      refine ⟨o, b, off, rfl, hb, fun j hj => ?_⟩
      have := hat j hj
      rw [Go.WideShapes.add_plain, Go.WideShapes.add_plain] at this
      exact this
    obtain ⟨f, hf⟩ := choose_lt (p := fun i o => ∃ b off, a = ⟨b, off, none⟩ ∧ b < W.heap.size ∧ ∀ j, j < z → W.cell? ⟨b, off + i * z + j, none⟩ = (cells o)[j]?) key
    refine ⟨some a, (List.range len').map f, cap', by simpa using hcs, by simp; unfold maxLen at hm; omega, fun i o ho => ?_⟩
    rw [List.getElem?_map] at ho
    by_cases hil : i < len'
    · rw [List.getElem?_range hil] at ho
      simp only [Option.map_some, Option.some.injEq] at ho
      subst ho
      obtain ⟨b, off, e, hb, hx⟩ := hf i hil
      exact ⟨b, off, by rw [e], hb, hx⟩
    · rw [List.getElem?_eq_none (by simp; omega)] at ho
      cases ho
instance : Inhabited Od := ⟨⟨0, 0, 0, 0, 0⟩⟩
instance : Inhabited Pt := ⟨⟨0, 0, 0, 0⟩⟩
/-- The list of orders that an argument is. -/
theorem open_orders {H : Type} {enc : TypeId × Value → H} {W : World} {held : Bool} {spare : Nat → Bool} {v : Value} {d : DataW H} {p : List MemPlace} (hv : ∃ a len cap, v = .slice a len cap) (h : DataW.Trod enc Try.prog W 0 spare held 22 v d p) : ∃ l, InO W v l ∧ l.length ≤ 9223372036854775807 := by
  obtain ⟨a0, len, cap, rfl⟩ := hv
  obtain ⟨fuel, hf⟩ := h
  have hf' : DataW.trod enc Try.prog W 0 spare held fuel 22 [.slice a0 len cap] = some (d, p) := by simpa [Value.cells] using hf
  obtain ⟨A, l, cap', e, hl, hx⟩ := open_row Try.underlying22 (by kernel_rfl : Try.prog.cellsOf 30 = 5) (by omega) (cells := fun o : Od => o.cells.toList) (fun n cs x h => od_cells h) hf'
  refine ⟨l, ⟨A, cap', e, fun i o ho => ?_⟩, hl⟩
  obtain ⟨g, off, e, hg, hc⟩ := hx i o ho
  exact ⟨g, off, e, hg, hc 0 (by omega), hc 1 (by omega), hc 2 (by omega), hc 3 (by omega), hc 4 (by omega)⟩
/-- An order that an argument is. -/
theorem open_od {H : Type} {enc : TypeId × Value → H} {W : World} {base b0 : Nat} {spare : Nat → Bool} {held : Bool} {r : Reach} {v : Value} {d : DataW H} {p : List MemPlace} (hv : Value.okWide Try.prog W r b0 30 v) (h : DataW.Trod enc Try.prog W base spare held 30 v d p) : ∃ o : Od, v = o.val := by
  obtain ⟨cs, rfl, -⟩ := okWide_struct Try.underlying30 hv
  obtain ⟨fuel, hf⟩ := h
  obtain ⟨m, hm⟩ := od_cells (by simpa [Value.cells] using hf)
  exact ⟨m, by rw [show cs = m.cells from Array.toList_inj.1 hm]⟩
/-- A range that an argument is. -/
theorem open_rg {H : Type} {enc : TypeId × Value → H} {W : World} {base b0 : Nat} {spare : Nat → Bool} {held : Bool} {r : Reach} {v : Value} {d : DataW H} {p : List MemPlace} (hv : Value.okWide Try.prog W r b0 28 v) (h : DataW.Trod enc Try.prog W base spare held 28 v d p) : ∃ f t : Int, v = .agg #[.int .i64 f, .int .i64 t] := by
  obtain ⟨cs, rfl, -⟩ := okWide_struct Try.underlying28 hv
  obtain ⟨fuel, hf⟩ := h
  obtain ⟨f, t, hm⟩ := rg_cells (by simpa [Value.cells] using hf)
  exact ⟨f, t, by rw [show cs = #[.int .i64 f, .int .i64 t] from Array.toList_inj.1 hm]⟩
/-- A config that an argument is. -/
theorem open_cf {H : Type} {enc : TypeId × Value → H} {W : World} {base b0 : Nat} {spare : Nat → Bool} {held : Bool} {r : Reach} {v : Value} {d : DataW H} {p : List MemPlace} (hv : Value.okWide Try.prog W r b0 26 v) (h : DataW.Trod enc Try.prog W base spare held 26 v d p) : ∃ c : Cf, IC W v c ∧ c.srv.length ≤ 9223372036854775807 ∧ c.pts.length ≤ 9223372036854775807 := by
  obtain ⟨cs, rfl, -⟩ := okWide_struct Try.underlying26 hv
  obtain ⟨fuel, hf0⟩ := h
  have h : DataW.trod enc Try.prog W base spare held fuel 26 cs.toList = some (d, p) := by simpa [Value.cells] using hf0
  obtain ⟨ys, n', _, _, hlen, hyl, hf⟩ := DataW.trod_struct Try.underlying26 h
  have hlen : cs.toList.length = 4 := hlen.trans (by kernel_rfl)
  obtain ⟨l⟩ := cs
  simp only at hlen hf
  match l, hlen with
  | [c0, c1, c2, c3], _ =>
    have hy : ∀ j, j < 4 → ∃ y, ys[j]? = some y := fun j hj => ⟨_, List.getElem?_eq_getElem (by rw [hyl]; exact hj)⟩
    obtain ⟨y0, g0⟩ := hy 0 (by omega)
    obtain ⟨y1, g1⟩ := hy 1 (by omega)
    obtain ⟨y2, g2⟩ := hy 2 (by omega)
    obtain ⟨y3, g3⟩ := hy 3 (by omega)
    have t0 : DataW.trod enc Try.prog W base spare held n' 3 (([c0, c1, c2, c3].drop 0).take (Try.prog.cellsOf 3)) = some y0 := (hf 0 _ rfl).trans g0
    have t1 : DataW.trod enc Try.prog W base spare held n' 23 (([c0, c1, c2, c3].drop 1).take (Try.prog.cellsOf 23)) = some y1 := (hf 1 _ rfl).trans g1
    have t2 : DataW.trod enc Try.prog W base spare held n' 24 (([c0, c1, c2, c3].drop 2).take (Try.prog.cellsOf 24)) = some y2 := (hf 2 _ rfl).trans g2
    have t3 : DataW.trod enc Try.prog W base spare held n' 3 (([c0, c1, c2, c3].drop 3).take (Try.prog.cellsOf 3)) = some y3 := (hf 3 _ rfl).trans g3
    have z : Try.prog.cellsOf 3 = 1 := by kernel_rfl
    have z1 : Try.prog.cellsOf 23 = 1 := by kernel_rfl
    have z2 : Try.prog.cellsOf 24 = 1 := by kernel_rfl
    simp only [z, z1, z2, List.drop_succ_cons, List.drop_zero, List.take_succ_cons, List.take_zero] at t0 t1 t2 t3
    obtain ⟨q0, e0, -, -⟩ := DataW.trod_int Try.underlying3 t0
    obtain ⟨q3, e3, -, -⟩ := DataW.trod_int Try.underlying3 t3
    simp only [List.cons.injEq, and_true] at e0 e3
    subst e0 e3
    obtain ⟨A1, ls, k1, rfl, h1l, h1⟩ := open_row Try.underlying23 z (by omega) (cells := fun x : Int => [Value.int .i64 x]) (fun n cs x h => by
      obtain ⟨q, e, -, -⟩ := DataW.trod_int Try.underlying3 h
      exact ⟨q, e⟩) t1
    obtain ⟨A2, lp, k2, rfl, h2l, h2⟩ := open_row Try.underlying24 (by kernel_rfl : Try.prog.cellsOf 63 = 4) (by omega) (cells := fun p : Pt => p.cells.toList) (fun n cs x h => pt_cells h) t2
    refine ⟨⟨q0, ls, lp, q3⟩, ⟨_, _, rfl, ⟨A1, k1, rfl, fun i x hx => ?_⟩, ⟨A2, k2, rfl, fun i x hx => ?_⟩⟩, h1l, h2l⟩
    · obtain ⟨g, off, e, hg, hc⟩ := h1 i x hx
      have := hc 0 (by omega)
      rw [Nat.mul_one, Nat.add_zero] at this
      exact ⟨g, off, e, hg, this⟩
    · obtain ⟨g, off, e, hg, hc⟩ := h2 i x hx
      exact ⟨g, off, e, hg, hc 0 (by omega), hc 1 (by omega), hc 2 (by omega), hc 3 (by omega)⟩
end Go.Proofs.Ythjinpbclfankaa
