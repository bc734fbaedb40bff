/-
  An acceptor of the program, and the document's own, as cells; what of memory turns while one of them is called.
-/
import Derived.Test.YtacbodojbekeeaaDoorAcc
import Derived.Deep.OwnRows
namespace Go.Proofs.YtacbodojbekeeaaDoor
open Go.RowKit

/-- Block b alone has turned, and new ones. -/
abbrev Fb (b : Nat) (w w' : World) : Prop := Fr b none w w'
theorem Fb.cell {b c o : Nat} {w w' : World} {v : Value} (h : Fb b w w') (hc : w.cell? ⟨c, o, none⟩ = some v) (hne : c ≠ b) : w'.cell? ⟨c, o, none⟩ = some v := by
  rw [World.cell?_of_block (w := w) (a := ⟨c, o, none⟩) (h.block c (World.block_lt_of_cell? w _ hc) hne (by simp))]; exact hc
theorem Fb.same {b : Nat} {w : World} : Fb b w w := Fr.refl b none w
theorem Fb.of_below {b : Nat} {w w' : World} (h : Below w.heap.size w w') : Fb b w w' := Fr.of_below h
theorem Fb.trans {b : Nat} {w w1 w2 : World} (h : Fb b w w1) (h' : Fb b w1 w2) : Fb b w w2 := Fr.trans h h'
theorem Fb.then_below {b : Nat} {w w1 w2 : World} (h : Fb b w w1) (h' : Below w1.heap.size w1 w2) : Fb b w w2 := Fb.trans h (Fb.of_below h')
theorem Fb.after_below {b : Nat} {w w1 w2 : World} (h : Below w.heap.size w w1) (h' : Fb b w1 w2) : Fb b w w2 := Fb.trans (Fb.of_below h) h'
theorem Fb.set {b : Nat} {w w1 : World} (h : Fb b w w1) (o : Nat) (v : Value) : Fb b w (w1.setCell ⟨b, o, none⟩ v) :=
  ⟨h.os, h.tape, h.output, by simp [World.setCell]; exact h.size, fun k hk hkb hkr => by
    rw [Below.heap_setCell _ _ _ _ (by simpa using hkb)]; exact h.block k hk hkb hkr⟩
theorem Fb.drew {b : Nat} {w w1 : World} (h : Fb b w w1) : Fb b w w1.drew := ⟨h.os, h.tape, h.output, h.size, h.block⟩
theorem below_drewN {B : Nat} {a w : World} (h : Below B a w) (n : Nat) : Below B a (w.drewN n) := ⟨h.os, h.tape, h.output, h.size, h.block⟩
theorem Fb.drewN {b : Nat} {w w1 : World} (h : Fb b w w1) (n : Nat) : Fb b w (w1.drewN n) := ⟨h.os, h.tape, h.output, h.size, h.block⟩
theorem Fb.below {b B : Nat} {w w' : World} (h : Fb b w w') (hB : B ≤ b) (hw : B ≤ w.heap.size) : Below B w w' :=
  ⟨h.os, h.tape, h.output, h.size, fun k hk => h.block k (by omega) (by omega) (by simp)⟩
theorem below_fb {b B : Nat} {w0 w w' : World} (h0 : Below B w0 w) (h : Fb b w w') (hB : B ≤ b) (hw : B ≤ w.heap.size) : Below B w0 w' := h0.trans (h.below hB hw)

theorem heap_setCell {w : World} {b : Nat} {cs : Array Value} {t : TypeId} {fr : Nat × Nat} (h : w.heap[b]? = some (.cells cs t fr)) (i : Nat) (v : Value) : (w.setCell ⟨b, i, none⟩ v).heap[b]? = some (.cells (cs.setIfInBounds i v) t fr) := by
  unfold World.setCell
  simp [Array.getElem?_modify, h]
/-- Two blocks of different types. -/
theorem type_ne {w : World} {a b : Nat} {s t : TypeId} {cs ds : Array Value} {f g : Nat × Nat} (ha : w.heap[a]? = some (.cells cs s f)) (hb : w.heap[b]? = some (.cells ds t g)) (ht : s ≠ t) : a ≠ b := fun e => by
  subst e
  rw [ha] at hb
  simp only [Option.some.injEq, Obj.cells.injEq] at hb
  exact ht hb.2.1
theorem row_ne {w : World} {a b : Nat} {s t : TypeId} {n m : Nat} {f g : Nat → Value} (ha : w.rowIs a s n f) (hb : w.rowIs b t m g) (ht : s ≠ t) : a ≠ b := by
  obtain ⟨c, h1, -⟩ := ha
  obtain ⟨d, h2, -⟩ := hb
  exact type_ne h1 h2 ht
theorem owns_type {w : World} {base e size n : Nat} {v : Value} {xs : List Value} (h : w.ownsRow base e size v n xs) {g : Nat} (hg : v.ownBlock = some g) : ∃ cur, w.heap[g]? = some (.cells cur e (0, 0)) := by
  rcases h.2 with ⟨rfl, _⟩ | ⟨g', cap, cur, rfl, _, hgg, _⟩
  · simp [Value.ownBlock] at hg
  · simp [Value.ownBlock] at hg; subst hg; exact ⟨cur, hgg⟩
theorem OwnsV.ne {e : TypeId} {w : World} {base : Nat} {v : Value} {l : List V} (h : OwnsV e w base v l) {b t m : Nat} {f : Nat → Value} (hr : w.rowIs b t m f) (ht : e ≠ t) : v.ownBlock ≠ some b := fun hg => by
  obtain ⟨cur, h1⟩ := owns_type h hg
  obtain ⟨c, h2, _⟩ := hr
  exact type_ne h1 h2 ht rfl
/-- A row of votes is as it was, where a block of another type has turned. -/
theorem OwnsV.fb {e : TypeId} {w w' : World} {base : Nat} {v : Value} {l : List V} (h : OwnsV e w base v l) {b t m : Nat} {f : Nat → Value} (hr : w.rowIs b t m f) (ht : e ≠ t) (hf : Fb b w w') : OwnsV e w' base v l :=
  h.kept fun g hg => hf.block g (h.lt hg).2 (fun e => h.ne hr ht (by rw [hg, e])) (by simp)

/-! ### the program's acceptor -/
/-- Its cells: what it promised, and of each slot where the vote lies. -/
def pa (p : Int) (ptr : Nat → Value) (o : Nat) : Value := if o = 0 then .int .i64 p else ptr (o - 1)
/-- ptr tells where the votes l lie, by slots. -/
def Ptrs (w : World) (l : List V) (ptr : Nat → Value) : Prop :=
  ∀ k : Nat, k < 4096 → (lk l (k : Int) = none → ptr k = .pointer none) ∧ ∀ v, lk l (k : Int) = some v → ∃ z, ptr k = .pointer (some ⟨z, 0, none⟩) ∧ AV 32 w z v
/-- The acceptor in block a. -/
def PC (w : World) (a : Nat) (p : Int) (l : List V) : Prop := ∃ ptr, w.rowIs a 71 4097 (pa p ptr) ∧ Ptrs w l ptr
section
variable {w w' : World} {a b : Nat} {p : Int} {l : List V}
theorem PC.lt (h : PC w a p l) : a < w.heap.size := by obtain ⟨ptr, h1, -⟩ := h; exact h1.lt
theorem PC.row (h : PC w a p l) : ∃ f, w.rowIs a 71 4097 f := by obtain ⟨ptr, h1, -⟩ := h; exact ⟨_, h1⟩
theorem PC.c0 (h : PC w a p l) : w.cell? ⟨a, 0, none⟩ = some (.int .i64 p) := by obtain ⟨ptr, h1, -⟩ := h; exact h1.cell (by omega)
theorem PC.free (h : PC w a p l) (o : Nat) : w.frozen? ⟨a, o, none⟩ = false := by obtain ⟨ptr, h1, -⟩ := h; exact h1.frozen o
/-- What lies at slot k. -/
theorem PC.slot (h : PC w a p l) (k : Nat) (hk : k < 4096) : ∃ x, w.cell? ⟨a, 1 + k, none⟩ = some x ∧ (lk l (k : Int) = none → x = .pointer none) ∧ ∀ v, lk l (k : Int) = some v → ∃ z, x = .pointer (some ⟨z, 0, none⟩) ∧ z < w.heap.size ∧ AV 32 w z v := by
  obtain ⟨ptr, h1, h2⟩ := h
  refine ⟨ptr k, ?_, (h2 k hk).1, fun v hv => ?_⟩
  · have := h1.cell (i := 1 + k) (by omega)
    rw [this]
    unfold pa
    rw [if_neg (by omega), Nat.add_sub_cancel_left]
  · obtain ⟨z, e, hz⟩ := (h2 k hk).2 v hv
    exact ⟨z, e, hz.lt, hz⟩
theorem PC.kept (h : PC w a p l) (ha : w'.heap[a]? = w.heap[a]?) (hv : ∀ z v, AV 32 w z v → w'.heap[z]? = w.heap[z]?) : PC w' a p l := by
  obtain ⟨ptr, h1, h2⟩ := h
  refine ⟨ptr, h1.of_block ha, fun k hk => ⟨(h2 k hk).1, fun v hl => ?_⟩⟩
  obtain ⟨z, e, hz⟩ := (h2 k hk).2 v hl
  exact ⟨z, e, hz.of_block (hv z v hz)⟩
theorem PC.below (h : PC w a p l) (hb : Below w.heap.size w w') : PC w' a p l := h.kept (hb.block a h.lt) fun z _ hz => hb.block z hz.lt
/-- Another block has turned, which is no vote. -/
theorem PC.fb (h : PC w a p l) {t n : Nat} {f : Nat → Value} (hr : w.rowIs b t n f) (ht : 32 ≠ t) (hne : a ≠ b) (hf : Fb b w w') : PC w' a p l := by
  refine h.kept (hf.block a h.lt hne (by simp)) fun z _ hz => hf.block z hz.lt (fun e => ?_) (by simp)
  obtain ⟨c, h2, -⟩ := hr
  exact type_ne hz h2 ht e
theorem PC.prom (h : PC w a p l) (q : Int) : PC (w.setCell ⟨a, 0, none⟩ (.int .i64 q)) a q l := by
  obtain ⟨ptr, h1, h2⟩ := h
  refine ⟨ptr, (h1.set 0 (.int .i64 q)).congr fun i hi => ?_, fun k hk => ⟨(h2 k hk).1, fun v hl => ?_⟩⟩
  · unfold pa
    by_cases h0 : i = 0
    · rw [if_pos h0, if_pos h0]
    · rw [if_neg h0, if_neg h0, if_neg h0]
  · obtain ⟨z, e, hz⟩ := (h2 k hk).2 v hl
    refine ⟨z, e, hz.of_block (Below.heap_setCell _ _ _ _ ?_)⟩
    obtain ⟨c, g2, -⟩ := h1
    exact type_ne hz g2 (by decide)
theorem PC.vote (h : PC w a p l) {lo : Int} (hs : Srt lo l) {z : Nat} {v : V} (hz : AV 32 w z v) (h0 : 0 ≤ v.s) (h1 : v.s < 4096) : PC (w.setCell ⟨a, 1 + v.s.toNat, none⟩ (.pointer (some ⟨z, 0, none⟩))) a p (ins v l) := by
  obtain ⟨ptr, g1, g2⟩ := h
  have hne : ∀ y u, AV 32 w y u → y ≠ a := fun y u hy => by
    obtain ⟨c, k2, -⟩ := g1
    exact type_ne hy k2 (by decide)
  refine ⟨fun k => if k = v.s.toNat then .pointer (some ⟨z, 0, none⟩) else ptr k, (g1.set (1 + v.s.toNat) (.pointer (some ⟨z, 0, none⟩))).congr fun i hi => ?_, fun k hk => ⟨fun hn => ?_, fun u hu => ?_⟩⟩
  · unfold pa
    by_cases e0 : i = 0
    · rw [if_neg (by omega), if_pos e0, if_pos e0]
    · by_cases e1 : i = 1 + v.s.toNat
      · rw [if_pos e1, if_neg e0]
        show _ = if i - 1 = v.s.toNat then _ else ptr (i - 1)
        rw [if_pos (by omega)]
      · rw [if_neg e1, if_neg e0, if_neg e0]
        show _ = if i - 1 = v.s.toNat then _ else ptr (i - 1)
        rw [if_neg (by omega)]
  · rw [lk_ins hs] at hn
    by_cases e : v.s = (k : Int)
    · rw [if_pos e] at hn; cases hn
    · rw [if_neg e] at hn
      show (if k = v.s.toNat then _ else ptr k) = _
      rw [if_neg (by omega)]; exact (g2 k hk).1 hn
  · rw [lk_ins hs] at hu
    by_cases e : v.s = (k : Int)
    · rw [if_pos e] at hu
      injection hu with hu
      subst hu
      refine ⟨z, ?_, hz.of_block (Below.heap_setCell _ _ _ _ (hne z v hz))⟩
      show (if k = v.s.toNat then _ else ptr k) = _
      rw [if_pos (by omega)]
    · rw [if_neg e] at hu
      obtain ⟨y, hy, hay⟩ := (g2 k hk).2 u hu
      refine ⟨y, ?_, hay.of_block (Below.heap_setCell _ _ _ _ (hne y u hay))⟩
      show (if k = v.s.toNat then _ else ptr k) = _
      rw [if_neg (by omega)]; exact hy
end
/-- The acceptor A in block a. -/
structure PA (w : World) (a : Nat) (A : Acc) : Prop where
  pc : PC w a A.p A.l
  good : A.Good

/-! ### the document's own -/
def ra (p : Int) (sv : Value) (o : Nat) : Value := if o = 0 then .int .i64 p else sv
def RC (w : World) (r : Nat) (p : Int) (l : List V) : Prop := ∃ sv, w.rowIs r 30 2 (ra p sv) ∧ OwnsV 46 w 0 sv l
section
variable {w w' : World} {r b : Nat} {p : Int} {l : List V}
theorem RC.lt (h : RC w r p l) : r < w.heap.size := by obtain ⟨sv, h1, -⟩ := h; exact h1.lt
theorem RC.row (h : RC w r p l) : ∃ f, w.rowIs r 30 2 f := by obtain ⟨ptr, h1, -⟩ := h; exact ⟨_, h1⟩
theorem RC.free (h : RC w r p l) (o : Nat) : w.frozen? ⟨r, o, none⟩ = false := by obtain ⟨ptr, h1, -⟩ := h; exact h1.frozen o
/-- Its cells, and its votes as one reads them. -/
theorem RC.form (h : RC w r p l) : w.cell? ⟨r, 0, none⟩ = some (.int .i64 p) ∧ ∃ A c, w.cell? ⟨r, 1, none⟩ = some (.slice A l.length c) ∧ OwnsV 46 w 0 (.slice A l.length c) l ∧ ∀ i m, l[i]? = some m → ∃ g, A = some ⟨g, 0, none⟩ ∧ g < w.heap.size ∧ g ≠ r ∧ VAt w g (i * 3) m := by
  obtain ⟨sv, h1, h2⟩ := h
  have hne := h2.ne h1 (by decide)
  have h3 := h2
  obtain ⟨A, c, rfl, hm⟩ := vshape h3
  refine ⟨h1.cell (by omega), A, c, h1.cell (by omega), h2, fun i m hi => ?_⟩
  obtain ⟨g, rfl, hg, hv⟩ := hm i m hi
  exact ⟨g, rfl, hg, fun e => hne (by rw [← e]; rfl), hv⟩
theorem RC.below (h : RC w r p l) (hb : Below w.heap.size w w') : RC w' r p l := by
  obtain ⟨sv, h1, h2⟩ := h
  exact ⟨sv, h1.of_block (hb.block r h1.lt), h2.below hb⟩
theorem RC.fb (h : RC w r p l) {t n : Nat} {f : Nat → Value} (hr : w.rowIs b t n f) (ht : 46 ≠ t) (hne : r ≠ b) (hf : Fb b w w') : RC w' r p l := by
  obtain ⟨sv, h1, h2⟩ := h
  exact ⟨sv, h1.of_block (hf.block r h1.lt hne (by simp)), h2.fb hr ht hf⟩
theorem RC.prom (h : RC w r p l) (q : Int) : RC (w.setCell ⟨r, 0, none⟩ (.int .i64 q)) r q l := by
  obtain ⟨sv, h1, h2⟩ := h
  refine ⟨sv, (h1.set 0 (.int .i64 q)).congr fun i hi => ?_, h2.kept fun g hg => Below.heap_setCell _ _ _ _ (fun e => h2.ne h1 (by decide) (by rw [hg, e]))⟩
  unfold ra
  by_cases h0 : i = 0
  · rw [if_pos h0, if_pos h0]
  · rw [if_neg h0, if_neg h0, if_neg h0]
theorem RC.votes (h : RC w r p l) {base : Nat} {sv : Value} {k : List V} (ho : OwnsV 46 w base sv k) : RC (w.setCell ⟨r, 1, none⟩ sv) r p k := by
  obtain ⟨sv0, h1, h2⟩ := h
  refine ⟨sv, (h1.set 1 sv).congr fun i hi => ?_, (ho.mono (Nat.zero_le _)).kept fun g hg => Below.heap_setCell _ _ _ _ (fun e => ho.ne h1 (by decide) (by rw [hg, e]))⟩
  unfold ra
  by_cases h0 : i = 0
  · rw [if_neg (by omega), if_pos h0, if_pos h0]
  · rw [if_neg h0, if_pos (by omega), if_neg h0]
end
structure RA (w : World) (r : Nat) (A : Acc) : Prop where
  rc : RC w r A.p A.l
  good : A.Good
end Go.Proofs.YtacbodojbekeeaaDoor
