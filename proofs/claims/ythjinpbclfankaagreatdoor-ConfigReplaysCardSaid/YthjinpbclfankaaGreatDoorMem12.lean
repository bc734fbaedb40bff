/-
  Numbers, parts and configs in memory, as one reads them, and in rows of one's own.
-/
import Derived.Test.YthjinpbclfankaaGreatDoorCfg
import Derived.Test.YthjinpbclfankaaGreatDoorProg
import Derived.WalkKit
import Derived.Handy
import Derived.Lib.Hide
import Derived.IntWalk
import Derived.Deep.OwnRows
import Derived.WalkSmall
namespace Go.Proofs.YthjinpbclfankaaGreatDoor
open Go.RowKit

/-! ### numbers -/
/-- The slice v has the numbers l. -/
def InI (w : World) (v : Value) (l : List Int) : Prop := ∃ A c, v = .slice A l.length c ∧ ∀ i x, l[i]? = some x → ∃ g o, A = some ⟨g, o, none⟩ ∧ g < w.heap.size ∧ w.cell? ⟨g, o + i, none⟩ = some (.int .i64 x)
theorem InI.below {w w' : World} {v : Value} {l : List Int} (h : InI w v l) (hb : Below w.heap.size w w') : InI w' v l := by
  obtain ⟨A, c, rfl, hc⟩ := h
  refine ⟨A, c, rfl, fun i x hx => ?_⟩
  obtain ⟨g, o, e, hg, hx⟩ := hc i x hx
  exact ⟨g, o, e, Nat.lt_of_lt_of_le hg hb.size, (hb.cell (p := ⟨g, o + i, none⟩) hg).trans hx⟩
def OwnsI (w : World) (base : Nat) (v : Value) (l : List Int) : Prop := w.ownsRow base 3 1 v l.length (l.map (Value.int .i64))
theorem OwnsI.nil (w : World) (base : Nat) : OwnsI w base (.slice none 0 0) [] := World.ownsRow_nil _ _ _ _
theorem owns_kept {w w' : World} {base e size n : Nat} {v : Value} {xs : List Value} (h : w.ownsRow base e size v n xs) (hb : ∀ g, v.ownBlock = some g → w'.heap[g]? = w.heap[g]?) : w'.ownsRow base e size v n xs := by
  refine ⟨h.1, ?_⟩
  rcases h.2 with hn | ⟨g, cap, cur, rfl, hbs, hgg, rest⟩
  · exact .inl hn
  · exact .inr ⟨g, cap, cur, rfl, hbs, by rw [hb g rfl]; exact hgg, rest⟩
theorem owns_mono {w : World} {base base' e size n : Nat} {v : Value} {xs : List Value} (h : w.ownsRow base e size v n xs) (hb : base' ≤ base) : w.ownsRow base' e size v n xs := by
  refine ⟨h.1, ?_⟩
  rcases h.2 with hn | ⟨g, cap, cur, rfl, hbs, rest⟩
  · exact .inl hn
  · exact .inr ⟨g, cap, cur, rfl, Nat.le_trans hb hbs, rest⟩
theorem owns_below {w w' : World} (hb : Below w.heap.size w w') {base e size n : Nat} {v : Value} {xs : List Value} (h : w.ownsRow base e size v n xs) : w'.ownsRow base e size v n xs := owns_kept h fun g hg => hb.block g (World.ownsRow.lt h g hg).2
theorem lt_of {w : World} {k : Nat} {o : Obj} (h : w.heap[k]? = some o) : k < w.heap.size := (Array.getElem?_eq_some_iff.1 h).1
theorem OwnsI.inI {w : World} {base : Nat} {s : Value} {l : List Int} (h : OwnsI w base s l) : InI w s l := by
  rcases h.2 with ⟨hv, h0⟩ | ⟨g, cap, cur, hv, hb, hg, hn, hm, hs, ht⟩
  · have : l = [] := List.length_eq_zero_iff.1 h0
    subst this
    exact ⟨none, 0, hv, fun j x h => by simp at h⟩
  · refine ⟨_, cap, hv, fun j x hx => ⟨g, 0, rfl, lt_of hg, ?_⟩⟩
    have hjl : j < l.length := (List.getElem?_eq_some_iff.1 hx).1
    have h1 : (l.map (Value.int .i64))[j]? = some (.int .i64 x) := by rw [List.getElem?_map, hx]; rfl
    rw [Nat.zero_add, cell_of_row w g j cur _ (0, 0) hg, ← h1, ← ht, List.getElem?_take, if_pos (by omega)]
    simp
theorem infoInt : (Tryz.prog.info? 3).map (fun i => (i.zero, i.size, i.bytes)) = some (some (.int .i64 0), 1, 8) := by kernel_rfl
theorem ints_one (l : List Int) : ∀ u ∈ l.map (Value.int .i64), u.oneCell' = true := fun u hu => by
  obtain ⟨x, _, rfl⟩ := List.mem_map.1 hu; rfl

/-! ### parts -/
@[reducible] def Pt.cells (p : Pt) : Array Value := #[.int .i64 p.f, .int .i64 p.t, .int .i64 p.a, .int .i64 p.b]
@[reducible] def Pt.val (p : Pt) : Value := .agg #[.int .i64 p.f, .int .i64 p.t, .int .i64 p.a, .int .i64 p.b]
def PAt (w : World) (g o : Nat) (p : Pt) : Prop := w.cell? ⟨g, o, none⟩ = some (.int .i64 p.f) ∧ w.cell? ⟨g, o + 1, none⟩ = some (.int .i64 p.t) ∧ w.cell? ⟨g, o + 2, none⟩ = some (.int .i64 p.a) ∧ w.cell? ⟨g, o + 3, none⟩ = some (.int .i64 p.b)
theorem PAt.below {w w' : World} {g o N : Nat} {p : Pt} (h : PAt w g o p) (hb : Below N w w') (hg : g < N) : PAt w' g o p :=
  ⟨(hb.cell (p := ⟨g, o, none⟩) hg).trans h.1, (hb.cell (p := ⟨g, o + 1, none⟩) hg).trans h.2.1, (hb.cell (p := ⟨g, o + 2, none⟩) hg).trans h.2.2.1, (hb.cell (p := ⟨g, o + 3, none⟩) hg).trans h.2.2.2⟩
/-- The slice v has the parts l. -/
def InP (w : World) (v : Value) (l : List Pt) : Prop := ∃ A c, v = .slice A l.length c ∧ ∀ i p, l[i]? = some p → ∃ g o, A = some ⟨g, o, none⟩ ∧ g < w.heap.size ∧ PAt w g (o + i * 4) p
theorem InP.below {w w' : World} {v : Value} {l : List Pt} (h : InP w v l) (hb : Below w.heap.size w w') : InP w' v l := by
  obtain ⟨A, c, rfl, hc⟩ := h
  refine ⟨A, c, rfl, fun i x hx => ?_⟩
  obtain ⟨g, o, e, hg, hx⟩ := hc i x hx
  exact ⟨g, o, e, Nat.lt_of_lt_of_le hg hb.size, hx.below hb hg⟩
def pflat : List Pt → List Value
  | [] => []
  | x :: l => x.cells.toList ++ pflat l
theorem pflat_length (l : List Pt) : (pflat l).length = l.length * 4 := by
  induction l with
  | nil => rfl
  | cons m l ih => simp only [pflat, List.length_append, ih, List.length_cons]; simp; omega
theorem pflat_append (l k : List Pt) : pflat (l ++ k) = pflat l ++ pflat k := by
  induction l with
  | nil => rfl
  | cons m l ih => simp only [List.cons_append, pflat, ih, List.append_assoc]
theorem pflat_one (l : List Pt) : ∀ u ∈ pflat l, u.oneCell' = true := by
  induction l with
  | nil => intro u hu; simp [pflat] at hu
  | cons m l ih =>
    intro u hu
    simp only [pflat, List.mem_append] at hu
    rcases hu with hu | hu
    · simp at hu
      rcases hu with rfl | rfl | rfl | rfl <;> rfl
    · exact ih u hu
theorem pflat_get (l : List Pt) (i : Nat) (m : Pt) (h : l[i]? = some m) (j : Nat) (hj : j < 4) : (pflat l)[i * 4 + j]? = m.cells.toList[j]? := by
  induction l generalizing i with
  | nil => simp at h
  | cons x l ih =>
    have hx : x.cells.toList.length = 4 := by simp
    cases i with
    | zero =>
      simp at h
      subst h
      rw [pflat, List.getElem?_append_left (by omega)]
      congr 1; omega
    | succ i =>
      simp at h
      rw [pflat, List.getElem?_append_right (by omega), hx]
      rw [show (i + 1) * 4 + j - 4 = i * 4 + j by omega]
      exact ih i h
theorem pflat_cell {l : List Pt} {j : Nat} {u : Value} (h : (pflat l)[j]? = some u) : ∃ m, l[j / 4]? = some m ∧ m.cells.toList[j % 4]? = some u := by
  have hlt := (List.getElem?_eq_some_iff.1 h).1
  rw [pflat_length] at hlt
  obtain ⟨m, hm⟩ : ∃ m, l[j / 4]? = some m := ⟨_, List.getElem?_eq_getElem (by omega)⟩
  refine ⟨m, hm, ?_⟩
  rw [← pflat_get l (j / 4) m hm (j % 4) (Nat.mod_lt _ (by omega)), ← h]
  congr 1; omega
/-- The cells of what one reads. -/
theorem InP.news {w : World} {g o n c : Nat} {l : List Pt} (h : InP w (.slice (some ⟨g, o, none⟩) n c) l) : ∀ j u, (pflat l)[j]? = some u → w.cell? ((⟨g, o, none⟩ : Addr).add j) = some u := by
  intro j u hu
  obtain ⟨A, c', e, hc⟩ := h
  simp only [Value.slice.injEq] at e
  obtain ⟨rfl, -, -⟩ := e
  obtain ⟨m, hm, hcell⟩ := pflat_cell hu
  obtain ⟨g', o', e, -, a, b, p, q⟩ := hc _ m hm
  simp only [Option.some.injEq, Addr.mk.injEq, and_true] at e
  obtain ⟨rfl, rfl⟩ := e
  rw [Go.WideShapes.add_plain, show o + j = o + j / 4 * 4 + j % 4 by omega]
  rcases (show j % 4 = 0 ∨ j % 4 = 1 ∨ j % 4 = 2 ∨ j % 4 = 3 by omega) with e | e | e | e <;> rw [e] at hcell ⊢ <;> simp at hcell <;> subst hcell
  · exact a
  · exact b
  · exact p
  · exact q
def OwnsP (e : TypeId) (w : World) (base : Nat) (v : Value) (l : List Pt) : Prop := w.ownsRow base e 4 v l.length (pflat l)
theorem OwnsP.nil (e : TypeId) (w : World) (base : Nat) : OwnsP e w base (.slice none 0 0) [] := World.ownsRow_nil _ _ _ _
theorem OwnsP.form {e : TypeId} {w : World} {base : Nat} {v : Value} {l : List Pt} (h : OwnsP e w base v l) : (v = .slice none 0 0 ∧ l = []) ∨ ∃ g cap, v = .slice (some ⟨g, 0, none⟩) l.length cap ∧ base ≤ g ∧ l.length ≤ cap ∧ cap ≤ maxLen ∧ (∃ cur, w.heap[g]? = some (.cells cur e (0, 0))) ∧ ∀ i p, l[i]? = some p → PAt w g (i * 4) p := by
  rcases h.2 with ⟨hv, h0⟩ | ⟨g, cap, cur, hv, hb, hg, hn, hm, hs, ht⟩
  · exact .inl ⟨hv, List.length_eq_zero_iff.1 h0⟩
  · refine .inr ⟨g, cap, hv, hb, hn, hm, ⟨cur, hg⟩, fun i m hi => ?_⟩
    have hil : i < l.length := (List.getElem?_eq_some_iff.1 hi).1
    have hc : ∀ j, j < 4 → w.cell? ⟨g, i * 4 + j, none⟩ = m.cells.toList[j]? := fun j hj => by
      rw [cell_of_row w g (i * 4 + j) cur _ (0, 0) hg, ← pflat_get l i m hi j hj, ← ht, List.getElem?_take, if_pos (by omega)]
      simp
    exact ⟨hc 0 (by omega), hc 1 (by omega), hc 2 (by omega), hc 3 (by omega)⟩
theorem OwnsP.inP {e : TypeId} {w : World} {base : Nat} {v : Value} {l : List Pt} (h : OwnsP e w base v l) : InP w v l := by
  rcases h.form with ⟨rfl, rfl⟩ | ⟨g, cap, rfl, -, -, -, ⟨cur, hg⟩, hc⟩
  · exact ⟨none, 0, rfl, fun j m h => by simp at h⟩
  · exact ⟨_, cap, rfl, fun i p hi => ⟨g, 0, rfl, lt_of hg, by rw [Nat.zero_add]; exact hc i p hi⟩⟩
theorem infoP : (Tryz.prog.info? 85).map (fun i => (i.zero, i.size, i.bytes)) = some (some (.agg #[.int .i64 0, .int .i64 0, .int .i64 0, .int .i64 0]), 4, 32) := by kernel_rfl
theorem infoRP : (Tryz.prog.info? 84).map (fun i => (i.zero, i.size, i.bytes)) = some (some (.agg #[.int .i64 0, .int .i64 0, .int .i64 0, .int .i64 0]), 4, 32) := by kernel_rfl

/-! ### configs -/
/-- The value v is the config c. -/
def IC (w : World) (v : Value) (c : Cf) : Prop := ∃ sv pv, v = .agg #[.int .i64 c.e, sv, pv, .int .i64 c.t] ∧ InI w sv c.srv ∧ InP w pv c.pts
theorem IC.below {w w' : World} {v : Value} {c : Cf} (h : IC w v c) (hb : Below w.heap.size w w') : IC w' v c := by
  obtain ⟨sv, pv, rfl, h1, h2⟩ := h
  exact ⟨sv, pv, rfl, h1.below hb, h2.below hb⟩
@[reducible] def Od.cells (o : Od) : Array Value := #[.int .i64 o.k, .int .i64 o.n, .int .i64 o.m, .int .i64 o.f, .int .i64 o.t]
@[reducible] def Od.val (o : Od) : Value := .agg #[.int .i64 o.k, .int .i64 o.n, .int .i64 o.m, .int .i64 o.f, .int .i64 o.t]
end Go.Proofs.YthjinpbclfankaaGreatDoor
