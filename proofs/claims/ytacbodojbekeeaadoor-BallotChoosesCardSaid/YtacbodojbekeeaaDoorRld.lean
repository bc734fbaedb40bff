/-
  What is kept while the document's own acceptor is loaded (weirkeepref10).
-/
import Derived.Test.YtacbodojbekeeaaDoorClo10
import Derived.Test.YtacbodojbekeeaaDoorRprog3
import Derived.Test.YtacbodojbekeeaaDoorReading
namespace Go.Proofs.YtacbodojbekeeaaDoor
open Go.RowKit Go.Lib Go.PlainAid

/-- A fault of the document's own in block z: its errors es. -/
structure Flt (w : World) (z : Nat) (A : Option Addr) (m c : Nat) (at_ : Int) (es : List Int) : Prop where
  box : w.heap[z]? = some (.cells #[.slice A m c, .int .i64 at_] 94 (0, 0))
  rf : RF w A m c es
  few : m ≤ 1000
section
variable {w w' : World} {z : Nat} {A : Option Addr} {m c : Nat} {at_ : Int} {es : List Int}
theorem Flt.lt (h : Flt w z A m c at_ es) : z < w.heap.size := (Array.getElem?_eq_some_iff.1 h.box).1
theorem Flt.cells (h : Flt w z A m c at_ es) : w.cell? ⟨z, 0, none⟩ = some (.slice A m c) ∧ w.cell? ⟨z, 1, none⟩ = some (.int .i64 at_) := by
  unfold World.cell?; simp only [h.box]; exact ⟨rfl, rfl⟩
theorem Flt.fresh (h : RF w A m c es) (hm : m ≤ 1000) : Flt (w.alloc (.cells #[.slice A m c, .int .i64 at_] 94)) w.heap.size A m c at_ es :=
  ⟨heap_alloc_new w _, h.below ((Below.refl _ _).alloc (Nat.le_refl _) _), hm⟩
theorem Flt.below (h : Flt w z A m c at_ es) (hb : Below w.heap.size w w') : Flt w' z A m c at_ es := ⟨by rw [hb.block z h.lt]; exact h.box, h.rf.below hb, h.few⟩
/-- The reader has turned. -/
theorem Flt.fbR (h : Flt w z A m c at_ es) {R q : Nat} {t : ByteArray} (hR : Rdr w R t q) (hf : Fb R w w') : Flt w' z A m c at_ es := by
  have hz : z ≠ R := fun e => by
    have := h.cells.1
    rw [e, hR.1] at this
    cases this
  refine ⟨by rw [hf.block z h.lt hz (by simp)]; exact h.box, ?_, h.few⟩
  obtain ⟨h1, h2, h3⟩ := h.rf
  refine ⟨h1, h2, ?_⟩
  rcases h3 with h3 | ⟨g, hA, hc⟩
  · exact .inl h3
  · refine .inr ⟨g, hA, fun j x hx => ?_⟩
    have hcj := hc j x hx
    have hg : g ≠ R := fun e => by
      cases es with
      | nil => simp at hx
      | cons y es =>
        have := hc 0 y rfl
        rw [e, hR.1] at this
        cases this
    exact hf.cell hcj hg
end
/-- The reader turns: the acceptor stays. -/
theorem RC.fbR {w w' : World} {r R q : Nat} {p : Int} {l : List V} {t : ByteArray} (h : RC w r p l) (hn : l = [] → w.cell? ⟨r, 1, none⟩ = some (.slice none 0 0)) (hR : Rdr w R t q) (hf : Fb R w w') : RC w' r p l ∧ r ≠ R := by
  obtain ⟨sv, h1, h2⟩ := h
  have hne : r ≠ R := fun e => by
    have := h1.cell (i := 0) (by omega)
    rw [e, hR.1] at this
    cases this
  refine ⟨⟨sv, h1.of_block (hf.block r h1.lt hne (by simp)), h2.kept fun g hg => hf.block g (h2.lt hg).2 (fun e => ?_) (by simp)⟩, hne⟩
  cases l with
  | nil =>
    have e1 := h1.cell (i := 1) (by omega)
    rw [hn rfl] at e1
    have e2 : Value.slice none 0 0 = sv := Option.some.inj e1
    rw [← e2] at hg
    simp [Value.ownBlock] at hg
  | cons v l =>
    obtain ⟨A, c, rfl, hm⟩ := vshape h2
    obtain ⟨g', e', -, hv⟩ := hm 0 v rfl
    subst e'
    simp [Value.ownBlock] at hg
    subst hg
    have := hv.c0
    rw [Nat.zero_mul, e, hR.1] at this
    cases this

/-- The document's own acceptor is being loaded: the reader in block R, the acceptor in block r. -/
structure Dl (w : World) (R : Nat) (t : ByteArray) (wr : World) (q : Nat) : Prop where
  lR : w.heap.size ≤ R
  rdr : Rdr wr R t q
  le : q ≤ t.size
  sz : t.size ≤ 1000000000
  below : Below w.heap.size w wr
section
variable {w wr w' : World} {R q q' : Nat} {t : ByteArray}
theorem Dl.low (h : Dl w R t wr q) (hb : Below wr.heap.size wr w') : Dl w R t w' q := ⟨h.lR, h.rdr.below hb, h.le, h.sz, h.below.trans (hb.mono h.below.size)⟩
theorem Dl.to (h : Dl w R t wr q) (hr : Rdr w' R t q') (hq : q' ≤ t.size) (hf : Fb R wr w') : Dl w R t w' q' := ⟨h.lR, hr, hq, h.sz, below_fb h.below hf h.lR h.below.size⟩
end
structure Dr (r : Nat) (wr : World) (l : List V) : Prop where
  rc : RC wr r 0 l
  nil_ : l = [] → wr.cell? ⟨r, 1, none⟩ = some (.slice none 0 0)
  srt : Srt 0 l
section
variable {w wr w' : World} {R r q : Nat} {t : ByteArray} {l : List V}
theorem Dr.low (h : Dr r wr l) (hb : Below wr.heap.size wr w') : Dr r w' l := ⟨h.rc.below hb, fun e => (hb.cell (p := ⟨r, 1, none⟩) h.rc.lt).trans (h.nil_ e), h.srt⟩
theorem Dr.fbR (h : Dr r wr l) (hR : Rdr wr R t q) (hf : Fb R wr w') : Dr r w' l := by
  obtain ⟨h1, h2⟩ := h.rc.fbR h.nil_ hR hf
  exact ⟨h1, fun e => hf.cell (h.nil_ e) h2, h.srt⟩
theorem Dr.fresh (w : World) : Dr w.heap.size (w.alloc (.cells #[.int .i64 0, .slice none 0 0] 30)) [] := by
  have hr : (w.alloc (.cells #[.int .i64 0, .slice none 0 0] 30)).rowIs w.heap.size 30 2 (ra 0 (.slice none 0 0)) :=
    World.rowIs_alloc w _ _ _ (fun q hq => by match q, hq with | 0, _ | 1, _ => rfl)
  exact ⟨⟨_, hr, OwnsV.nil _ _ _⟩, fun _ => hr.cell (by omega), trivial⟩
end
end Go.Proofs.YtacbodojbekeeaaDoor
