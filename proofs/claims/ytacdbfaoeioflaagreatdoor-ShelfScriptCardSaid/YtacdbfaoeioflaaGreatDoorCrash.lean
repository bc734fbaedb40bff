/-
  A plate, and the document's own, as cells; what turns of memory while one of them is called.

  The calls of a plate that only tell: Size, Dead, Calls, reach, kept, and the closures, by contracts.

  Laws at a walk's own steps: a write that waits is loaded, and stored whole; bytes are copied into a sector.

  settle (package plate), by a contract for each of the two that call it.

  Crash, count, Cut, Power and New (package plate), by contracts.
-/
import Derived.Test.YtacdbfaoeioflaaGreatDoorPure
import Derived.Laws.Tables
namespace Go.Proofs.YtacdbfaoeioflaaGreatDoor
open Go.RowKit

/-! ### what turns -/
/-- From w to w' nothing has turned but the blocks F, and new ones. -/
structure Keeps (F : Nat → Prop) (w w' : World) : Prop where
  os : w'.os = w.os
  tape : w'.tape = w.tape
  output : w'.output = w.output
  size : w.heap.size ≤ w'.heap.size
  block : ∀ k, k < w.heap.size → ¬ F k → w'.heap[k]? = w.heap[k]?
theorem Keeps.of_below {F : Nat → Prop} {w w' : World} (h : Below w.heap.size w w') : Keeps F w w' := ⟨h.os, h.tape, h.output, h.size, fun k hk _ => h.block k hk⟩
theorem Keeps.refl (F : Nat → Prop) (w : World) : Keeps F w w := Keeps.of_below (Below.refl _ _)
theorem Keeps.trans {F F' : Nat → Prop} {w w1 w2 : World} (h : Keeps F w w1) (k : Keeps F' w1 w2) (hF : ∀ k, F' k → F k ∨ w.heap.size ≤ k) : Keeps F w w2 :=
  ⟨k.os.trans h.os, k.tape.trans h.tape, k.output.trans h.output, Nat.le_trans h.size k.size, fun i hi hn => (k.block i (Nat.lt_of_lt_of_le hi h.size) (fun hf => by rcases hF i hf with h1 | h1 ; (exact hn h1); omega)).trans (h.block i hi hn)⟩
theorem Keeps.then_below {F : Nat → Prop} {w w1 w2 : World} (h : Keeps F w w1) (k : Below w1.heap.size w1 w2) : Keeps F w w2 := h.trans (F' := F) (Keeps.of_below k) (fun _ hf => .inl hf)
theorem Keeps.below_then {F : Nat → Prop} {w w1 w2 : World} (h : Below w.heap.size w w1) (k : Keeps F w1 w2) : Keeps F w w2 := (Keeps.of_below (F := F) h).trans k (fun _ hf => .inl hf)
theorem Keeps.set {F : Nat → Prop} {w w1 : World} (h : Keeps F w w1) {b o : Nat} (hb : F b ∨ w.heap.size ≤ b) (v : Value) : Keeps F w (w1.setCell ⟨b, o, none⟩ v) :=
  ⟨h.os, h.tape, h.output, by simp [World.setCell]; exact h.size, fun k hk hn => by rw [Below.heap_setCell _ _ _ _ (fun e => by subst e; rcases hb with hb | hb ; (exact hn hb); omega)]; exact h.block k hk hn⟩
theorem Keeps.setRow {F : Nat → Prop} {w w1 : World} (h : Keeps F w w1) {b : Nat} (hb : F b ∨ w.heap.size ≤ b) (cs : Array Value) : Keeps F w (w1.setRow b cs) :=
  ⟨h.os, h.tape, h.output, by simp [World.setRow]; exact h.size, fun k hk hn => by rw [setRow_other w1 b k cs (fun e => by subst e; rcases hb with hb | hb ; (exact hn hb); omega)]; exact h.block k hk hn⟩
theorem Keeps.grown {F : Nat → Prop} {w w1 w2 : World} {row : Option Nat} (h : Keeps F w w1) (k : w1.grownBy w2 row) (hr : ∀ g, row = some g → F g ∨ w.heap.size ≤ g) : Keeps F w w2 :=
  ⟨k.os.trans h.os, k.tape.trans h.tape, k.output.trans h.output, Nat.le_trans h.size k.size, fun i hi hn => (k.block i (Nat.lt_of_lt_of_le hi h.size) (fun e => by rcases hr i e.symm with h1 | h1 ; (exact hn h1); omega)).trans (h.block i hi hn)⟩
theorem Keeps.below {F : Nat → Prop} {B : Nat} {w0 w w' : World} (h : Keeps F w w') (hb : Below B w0 w) (hB : B ≤ w.heap.size) (hF : ∀ k, F k → B ≤ k) : Below B w0 w' :=
  ⟨h.os.trans hb.os, h.tape.trans hb.tape, h.output.trans hb.output, Nat.le_trans hb.size h.size, fun k hk => (h.block k (by omega) (fun hf => by have := hF k hf; omega)).trans (hb.block k hk)⟩
theorem Keeps.drew {F : Nat → Prop} {w w1 : World} (h : Keeps F w w1) : Keeps F w w1.drew := h.then_below ((Below.refl _ _).drew)

/-! ### rows -/
theorem owns_kept {w w' : World} {base e size n : Nat} {v : Value} {xs : List Value} (h : w.ownsRow base e size v n xs) (hb : ∀ g, v.ownBlock = some g → w'.heap[g]? = w.heap[g]?) : w'.ownsRow base e size v n xs := by
  refine ⟨h.1, ?_⟩
  rcases h.2 with hn | ⟨g, cap, cur, rfl, hbs, hgg, rest⟩
  · exact .inl hn
  · exact .inr ⟨g, cap, cur, rfl, hbs, by rw [hb g rfl]; exact hgg, rest⟩
theorem owns_lt {w : World} {base e size n : Nat} {v : Value} {xs : List Value} (h : w.ownsRow base e size v n xs) {g : Nat} (hg : v.ownBlock = some g) : g < w.heap.size := (World.ownsRow.lt h g hg).2
theorem owns_below {w w' : World} {base e size n : Nat} {v : Value} {xs : List Value} (h : w.ownsRow base e size v n xs) (hb : Below w.heap.size w w') : w'.ownsRow base e size v n xs := owns_kept h fun g hg => hb.block g (owns_lt h hg)
/-- The row's block bears its element's type. -/
theorem owns_type {w : World} {base e size n : Nat} {v : Value} {xs : List Value} (h : w.ownsRow base e size v n xs) {g : Nat} (hg : v.ownBlock = some g) : ∃ cur, w.heap[g]? = some (.cells cur e (0, 0)) := by
  rcases h.2 with ⟨rfl, _⟩ | ⟨g', cap, cur, rfl, _, hgg, _⟩
  · simp [Value.ownBlock] at hg
  · simp [Value.ownBlock] at hg; subst hg; exact ⟨cur, hgg⟩
theorem owns_ne {w : World} {base e size n : Nat} {v : Value} {xs : List Value} (h : w.ownsRow base e size v n xs) {b t m : Nat} {f : Nat → Value} (hr : w.rowIs b t m f) (ht : e ≠ t) : v.ownBlock ≠ some b := fun hg => by
  obtain ⟨cur, h1⟩ := owns_type h hg
  obtain ⟨c, h2, _⟩ := hr
  rw [h1] at h2
  simp only [Option.some.injEq, Obj.cells.injEq] at h2
  exact ht h2.2.1
theorem owns_ne2 {w : World} {base e size n : Nat} {v : Value} {xs : List Value} (h : w.ownsRow base e size v n xs) {base' e' size' n' : Nat} {v' : Value} {xs' : List Value} (h' : w.ownsRow base' e' size' v' n' xs') (ht : e ≠ e') {g : Nat} (hg : v.ownBlock = some g) : v'.ownBlock ≠ some g := fun hg' => by
  obtain ⟨cur, h1⟩ := owns_type h hg
  obtain ⟨c, h2⟩ := owns_type h' hg'
  rw [h1] at h2
  simp only [Option.some.injEq, Obj.cells.injEq] at h2
  exact ht h2.2.1

/-- The cells of a write that waits. -/
def wcells (x : Wr) : List Value := .int .i64 x.i :: Lib.byteCells x.b
theorem wcells_length {x : Wr} (h : x.b.length = 32) : (wcells x).length = 33 := by simp [wcells, Lib.byteCells_length, h]
def flat (l : List Wr) : List Value := l.flatMap wcells
theorem flat_append (l k : List Wr) : flat (l ++ k) = flat l ++ flat k := by simp [flat]
theorem flat_one (x : Wr) : flat [x] = wcells x := by simp [flat]
theorem wcells_oneCell (x : Wr) : ∀ u ∈ wcells x, u.oneCell' = true := by
  intro u hu
  simp only [wcells, List.mem_cons] at hu
  rcases hu with rfl | hu
  · rfl
  · exact Lib.byteCells_one _ u hu
theorem flat_oneCell (l : List Wr) : ∀ u ∈ flat l, u.oneCell' = true := by
  intro u hu
  simp only [flat, List.mem_flatMap] at hu
  obtain ⟨x, _, hu⟩ := hu
  exact wcells_oneCell x u hu
theorem flat_length {l : List Wr} (h : ∀ x ∈ l, x.b.length = 32) : (flat l).length = l.length * 33 := by
  induction l with
  | nil => rfl
  | cons x l ih =>
    rw [show flat (x :: l) = wcells x ++ flat l from rfl, List.length_append, wcells_length (h x (by simp)), ih (fun y hy => h y (by simp [hy]))]
    simp; omega
/-- A part of a row of blocks of one length. -/
theorem flatMap_get {α : Type} (f : α → List Value) (k : Nat) : ∀ (l : List α), (∀ x ∈ l, (f x).length = k) → ∀ (i : Nat) (x : α), l[i]? = some x → ∀ j, j < k → (l.flatMap f)[i * k + j]? = (f x)[j]?
  | [], _, i, x, h, j, hj => by simp at h
  | y :: l, hl, 0, x, h, j, hj => by
    simp at h; subst h
    rw [List.flatMap_cons, List.getElem?_append_left (by rw [hl y (by simp)]; omega)]
    congr 1; omega
  | y :: l, hl, i + 1, x, h, j, hj => by
    simp at h
    have hy := hl y (by simp)
    rw [List.flatMap_cons, List.getElem?_append_right (by rw [hy, Nat.succ_mul]; omega), hy]
    rw [show (i + 1) * k + j - k = i * k + j by rw [Nat.succ_mul]; omega]
    exact flatMap_get f k l (fun z hz => hl z (by simp [hz])) i x h j hj

/-- What a row of elements looks like: nothing, or a block in which they lie one behind the other. -/
theorem owns_form {α : Type} {f : α → List Value} {w : World} {base e size : Nat} {v : Value} {l : List α} (h : w.ownsRow base e size v l.length (l.flatMap f)) (hl : ∀ x ∈ l, (f x).length = size) :
    (v = .slice none 0 0 ∧ l = []) ∨ ∃ g cap, v = .slice (some ⟨g, 0, none⟩) l.length cap ∧ g < w.heap.size ∧ l.length ≤ cap ∧ cap ≤ maxLen ∧ ∀ i x, l[i]? = some x → w.rangeAt g (i * size) (f x) := by
  rcases h.2 with ⟨hv, h0⟩ | ⟨g, cap, cur, hv, hb, hg, hn, hm, hs, ht⟩
  · exact .inl ⟨hv, List.length_eq_zero_iff.1 h0⟩
  · refine .inr ⟨g, cap, hv, (Array.getElem?_eq_some_iff.1 hg).1, hn, hm, fun i x hi j u hu => ?_⟩
    have hil : i < l.length := (List.getElem?_eq_some_iff.1 hi).1
    have hj : j < size := by have := (List.getElem?_eq_some_iff.1 hu).1; rw [hl x (List.mem_of_getElem? hi)] at this; exact this
    have hlt : i * size + j < l.length * size := by
      have : (i + 1) * size ≤ l.length * size := Nat.mul_le_mul_right _ hil
      rw [Nat.succ_mul] at this; omega
    rw [cell_of_row w g (i * size + j) cur _ (0, 0) hg, ← hu, ← flatMap_get f size l hl i x hi j hj, ← ht, List.getElem?_take, if_pos hlt]
    simp
theorem Keeps.cell {F : Nat → Prop} {w w' : World} (h : Keeps F w w') {a : Addr} {v : Value} (hc : w.cell? a = some v) (hn : ¬ F a.block) : w'.cell? a = some v := by
  rw [World.cell?_of_block (h.block a.block (World.block_lt_of_cell? w _ hc) hn)]; exact hc
theorem Keeps.owns {F : Nat → Prop} {w w' : World} (h : Keeps F w w') {base e size n : Nat} {v : Value} {xs : List Value} (ho : w.ownsRow base e size v n xs) (hn : ∀ g, v.ownBlock = some g → ¬ F g) : w'.ownsRow base e size v n xs :=
  owns_kept ho fun g hg => h.block g (owns_lt ho hg) (hn g hg)
theorem Keeps.row {F : Nat → Prop} {w w' : World} (h : Keeps F w w') {b t n : Nat} {f : Nat → Value} (hr : w.rowIs b t n f) (hn : ¬ F b) : w'.rowIs b t n f := hr.of_block (h.block b hr.lt hn)

/-- A copy of cells into a row. -/
theorem row_copy {w : World} {b t n : Nat} {f : Nat → Value} (h : w.rowIs b t n f) (off : Nat) (cs : List Value) (hfit : off + cs.length ≤ n) :
    ∃ cur : Array Value, w.heap[b]? = some (.cells cur t (0, 0)) ∧ cur.size = n ∧ (w.setRow b (cur.toList.take off ++ (cs ++ cur.toList.drop (off + cs.length))).toArray).rowIs b t n (fun o => if o < off then f o else if h : o - off < cs.length then cs[o - off] else f o) := by
  obtain ⟨cur, hb, hn, hc⟩ := h
  refine ⟨cur, hb, hn, _, setRow_heap w b _ _ t _ hb, by simp [hn]; omega, fun i hi => ?_⟩
  have hl : (cur.toList.take off).length = off := by simp [hn]; omega
  show (List.take off cur.toList ++ (cs ++ List.drop (off + cs.length) cur.toList)).toArray[i]? = some (if i < off then f i else if h : i - off < cs.length then cs[i - off] else f i)
  rw [List.getElem?_toArray]
  by_cases h1 : i < off
  · rw [List.getElem?_append_left (by omega), List.getElem?_take, if_pos h1, if_pos h1, Array.getElem?_toList]
    exact hc i hi
  · rw [if_neg h1, List.getElem?_append_right (by omega), hl]
    by_cases h2 : i - off < cs.length
    · rw [dif_pos h2, List.getElem?_append_left h2, List.getElem?_eq_getElem h2]
    · rw [dif_neg h2, List.getElem?_append_right (by omega), List.getElem?_drop, Array.getElem?_toList]
      rw [show off + cs.length + (i - off - cs.length) = i by omega]
      exact hc i hi

/-! ### the plate -/
/-- The q-th byte of what lasts. -/
def byteAt (l : List (List UInt8)) (q : Nat) : UInt8 := (l.getD (q / 32) []).getD (q % 32) 0
def sc (l : List (List UInt8)) (q : Nat) : Value := .int .u8 ((byteAt l q).toNat : Int)
/-- The cells of a plate. -/
def pf (s : St) (L K : Nat) (v : Value) (o : Nat) : Value :=
  if o = 0 then .int .i64 (s.is.length : Int) else if o < 4097 then sc s.is (o - 1) else if o = 4097 then v else if o = 4098 then .bool s.gone else if o = 4099 then .int .i64 (s.n : Int) else if o = 4100 then .int .i64 (L : Int) else .int .u64 (K : Int)
structure PBv (w : World) (b : Nat) (s : St) (L K : Nat) (v : Value) : Prop where
  row : w.rowIs b 75 4102 (pf s L K v)
  own : w.ownsRow 0 97 33 v s.wait.length (flat s.wait)
  lf : s.gone = false → L = s.left ∧ (s.left ≠ 0 → K = s.keep)
  lt : L < 9223372036854775808
  kt : K < 18446744073709551616
theorem PBv.ne {w : World} {b : Nat} {s : St} {L K : Nat} {v : Value} (h : PBv w b s L K v) : v.ownBlock ≠ some b := owns_ne h.own h.row (by decide)
theorem PBv.cells {w : World} {b : Nat} {s : St} {L K : Nat} {v : Value} (h : PBv w b s L K v) :
    w.cell? ⟨b, 0, none⟩ = some (.int .i64 (s.is.length : Int)) ∧ w.cell? ⟨b, 4097, none⟩ = some v ∧ w.cell? ⟨b, 4098, none⟩ = some (.bool s.gone) ∧ w.cell? ⟨b, 4099, none⟩ = some (.int .i64 (s.n : Int)) ∧
    w.cell? ⟨b, 4100, none⟩ = some (.int .i64 (L : Int)) ∧ w.cell? ⟨b, 4101, none⟩ = some (.int .u64 (K : Int)) :=
  ⟨h.row.cell (by omega), h.row.cell (by omega), h.row.cell (by omega), h.row.cell (by omega), h.row.cell (by omega), h.row.cell (by omega)⟩
/-- A plate s in block b; F: the blocks that it has. -/
def PB (w : World) (b : Nat) (s : St) (F : Nat → Prop) : Prop := ∃ L K v, PBv w b s L K v ∧ ∀ k, F k ↔ (k = b ∨ v.ownBlock = some k)
theorem PB.lt {w : World} {b : Nat} {s : St} {F : Nat → Prop} (h : PB w b s F) : ∀ k, F k → k < w.heap.size := fun k hk => by
  obtain ⟨L, K, v, h1, h2⟩ := h
  rcases (h2 k).1 hk with rfl | hv
  · exact h1.row.lt
  · exact owns_lt h1.own hv
theorem PB.mem {w : World} {b : Nat} {s : St} {F : Nat → Prop} (h : PB w b s F) : F b := by
  obtain ⟨L, K, v, h1, h2⟩ := h; exact (h2 b).2 (.inl rfl)
theorem PBv.kept {w w' : World} {b : Nat} {s : St} {L K : Nat} {v : Value} (h : PBv w b s L K v) (hb : ∀ k, k = b ∨ v.ownBlock = some k → w'.heap[k]? = w.heap[k]?) : PBv w' b s L K v :=
  ⟨h.row.of_block (hb b (.inl rfl)), owns_kept h.own fun g hg => hb g (.inr hg), h.lf, h.lt, h.kt⟩
theorem PB.keeps {w w' : World} {b : Nat} {s : St} {F G : Nat → Prop} (h : PB w b s F) (hk : Keeps G w w') (hd : ∀ k, F k → ¬ G k) : PB w' b s F := by
  have hl := h.lt
  obtain ⟨L, K, v, h1, h2⟩ := h
  exact ⟨L, K, v, h1.kept fun k hk' => hk.block k (hl k ((h2 k).2 hk')) (hd k ((h2 k).2 hk')), h2⟩
theorem PB.below {w w' : World} {b : Nat} {s : St} {F : Nat → Prop} (h : PB w b s F) (hb : Below w.heap.size w w') : PB w' b s F := h.keeps (Keeps.of_below (F := fun _ => False) hb) (fun _ _ h => h)
theorem PBv.below {w w' : World} {b : Nat} {s : St} {L K : Nat} {v : Value} (h : PBv w b s L K v) (hb : Below w.heap.size w w') : PBv w' b s L K v :=
  h.kept fun k hk => hb.block k (by rcases hk with rfl | hk ; (exact h.row.lt); (exact owns_lt h.own hk))

/-! ### the document's own -/
def scells (l : List (List UInt8)) : List Value := l.flatMap fun x => [.string (str x)]
def rcells (x : Wr) : List Value := [.int .i64 (x.i : Int), .string (str x.b)]
def rf (s : St) (vi vw : Value) (o : Nat) : Value :=
  if o = 0 then vi else if o = 1 then vw else if o = 2 then .bool s.gone else if o = 3 then .int .i64 (s.left : Int) else if o = 4 then .int .u64 (s.keep : Int) else if o = 5 then .int .i64 (s.n : Int) else undef
structure RBv (w : World) (b : Nat) (s : St) (vi vw : Value) : Prop where
  row : w.rowIs b 61 6 (rf s vi vw)
  is : w.ownsRow 0 9 1 vi s.is.length (scells s.is)
  wt : w.ownsRow 0 100 2 vw s.wait.length (s.wait.flatMap rcells)
theorem RBv.cells {w : World} {b : Nat} {s : St} {vi vw : Value} (h : RBv w b s vi vw) :
    w.cell? ⟨b, 0, none⟩ = some vi ∧ w.cell? ⟨b, 1, none⟩ = some vw ∧ w.cell? ⟨b, 2, none⟩ = some (.bool s.gone) ∧ w.cell? ⟨b, 3, none⟩ = some (.int .i64 (s.left : Int)) ∧ w.cell? ⟨b, 4, none⟩ = some (.int .u64 (s.keep : Int)) ∧ w.cell? ⟨b, 5, none⟩ = some (.int .i64 (s.n : Int)) :=
  ⟨h.row.cell (by omega), h.row.cell (by omega), h.row.cell (by omega), h.row.cell (by omega), h.row.cell (by omega), h.row.cell (by omega)⟩
def RB (w : World) (b : Nat) (s : St) (F : Nat → Prop) : Prop := ∃ vi vw, RBv w b s vi vw ∧ ∀ k, F k ↔ (k = b ∨ vi.ownBlock = some k ∨ vw.ownBlock = some k)
theorem RB.lt {w : World} {b : Nat} {s : St} {F : Nat → Prop} (h : RB w b s F) : ∀ k, F k → k < w.heap.size := fun k hk => by
  obtain ⟨vi, vw, h1, h2⟩ := h
  rcases (h2 k).1 hk with rfl | hv | hv
  · exact h1.row.lt
  · exact owns_lt h1.is hv
  · exact owns_lt h1.wt hv
theorem RB.mem {w : World} {b : Nat} {s : St} {F : Nat → Prop} (h : RB w b s F) : F b := by
  obtain ⟨vi, vw, h1, h2⟩ := h; exact (h2 b).2 (.inl rfl)
theorem RBv.kept {w w' : World} {b : Nat} {s : St} {vi vw : Value} (h : RBv w b s vi vw) (hb : ∀ k, k = b ∨ vi.ownBlock = some k ∨ vw.ownBlock = some k → w'.heap[k]? = w.heap[k]?) : RBv w' b s vi vw :=
  ⟨h.row.of_block (hb b (.inl rfl)), owns_kept h.is fun g hg => hb g (.inr (.inl hg)), owns_kept h.wt fun g hg => hb g (.inr (.inr hg))⟩
theorem RB.keeps {w w' : World} {b : Nat} {s : St} {F G : Nat → Prop} (h : RB w b s F) (hk : Keeps G w w') (hd : ∀ k, F k → ¬ G k) : RB w' b s F := by
  have hl := h.lt
  obtain ⟨vi, vw, h1, h2⟩ := h
  exact ⟨vi, vw, h1.kept fun k hk' => hk.block k (hl k ((h2 k).2 hk')) (hd k ((h2 k).2 hk')), h2⟩
theorem RB.below {w w' : World} {b : Nat} {s : St} {F : Nat → Prop} (h : RB w b s F) (hb : Below w.heap.size w w') : RB w' b s F := h.keeps (Keeps.of_below (F := fun _ => False) hb) (fun _ _ h => h)
theorem RBv.below {w w' : World} {b : Nat} {s : St} {vi vw : Value} (h : RBv w b s vi vw) (hb : Below w.heap.size w w') : RBv w' b s vi vw :=
  h.kept fun k hk => hb.block k (by rcases hk with rfl | hk | hk ; (exact h.row.lt); (exact owns_lt h.is hk); (exact owns_lt h.wt hk))

/-- What a call leaves: the thing in its new blocks, all else as it was. -/
def Goes (F : Nat → Prop) (w w' : World) (Q : (Nat → Prop) → Prop) : Prop := ∃ F', Q F' ∧ (∀ k, F' k → F k ∨ w.heap.size ≤ k) ∧ Keeps F w w'
theorem Goes.trans {F : Nat → Prop} {w w1 w2 : World} {F1 : Nat → Prop} {Q : (Nat → Prop) → Prop} (h1 : ∀ k, F1 k → F k ∨ w.heap.size ≤ k) (h2 : Keeps F w w1) (h3 : Goes F1 w1 w2 Q) : Goes F w w2 Q := by
  obtain ⟨F2, hq, h4, h5⟩ := h3
  refine ⟨F2, hq, fun k hk => ?_, h2.trans h5 h1⟩
  rcases h4 k hk with h | h
  · exact h1 k h
  · exact .inr (Nat.le_trans h2.size h)
theorem Goes.same {F : Nat → Prop} {w w' : World} {Q : (Nat → Prop) → Prop} (h : Q F) (hk : Keeps F w w') : Goes F w w' Q := ⟨F, h, fun _ h => .inl h, hk⟩
end Go.Proofs.YtacdbfaoeioflaaGreatDoor

namespace Go.Proofs.YtacdbfaoeioflaaGreatDoor
open Go.RowKit

theorem size_any (b : Nat) (s : St) (F : Nat → Prop) (w : World) (h : PB w b s F) :
    Calls Tryz.prog 64 #[.pointer (some ⟨b, 0, none⟩)] w fun e w' => e = .returned (.int .i64 (s.is.length : Int)) ∧ w = w' := by
  obtain ⟨L, K, v, h, -⟩ := h
  obtain ⟨c0, -⟩ := h.cells
  clear h
  go_enter Tryz.func64, Tryz.ntmps64
  go_wp2
  go_ret
  exact ⟨rfl, rfl⟩

theorem dead_any (b : Nat) (s : St) (F : Nat → Prop) (w : World) (h : PB w b s F) :
    Calls Tryz.prog 39 #[.pointer (some ⟨b, 0, none⟩)] w fun e w' => e = .returned (.bool s.gone) ∧ w = w' := by
  obtain ⟨L, K, v, h, -⟩ := h
  obtain ⟨-, -, c0, -⟩ := h.cells
  clear h
  go_enter Tryz.func39, Tryz.ntmps39
  go_wp2
  go_ret
  exact ⟨rfl, rfl⟩

theorem calls_any (b : Nat) (s : St) (F : Nat → Prop) (w : World) (h : PB w b s F) :
    Calls Tryz.prog 36 #[.pointer (some ⟨b, 0, none⟩)] w fun e w' => e = .returned (.int .i64 (s.n : Int)) ∧ w = w' := by
  obtain ⟨L, K, v, h, -⟩ := h
  obtain ⟨-, -, -, c0, -⟩ := h.cells
  clear h
  go_enter Tryz.func36, Tryz.ntmps36
  go_wp2
  go_ret
  exact ⟨rfl, rfl⟩

theorem reach_any (b : Nat) (s : St) (F : Nat → Prop) (i : Int) (w : World) (h : PB w b s F) :
    Calls Tryz.prog 53 #[.pointer (some ⟨b, 0, none⟩), .int .i64 i] w fun e w' => e = .returned (.int .i64 (wrong s i)) ∧ w = w' := by
  obtain ⟨L, K, v, h, -⟩ := h
  obtain ⟨c0, -, c2, -⟩ := h.cells
  clear h
  unfold wrong
  cases hg : s.gone
  · rw [hg] at c2
    rw [if_neg (by simp)]
    generalize s.is.length = m at c0 ⊢
    by_cases h1 : i < 0
    · rw [if_pos (.inl h1)]
      go_enter Tryz.func53, Tryz.ntmps53
      go_wp2
      go_ret
      exact ⟨rfl, rfl⟩
    · by_cases h2 : (m : Int) ≤ i
      · rw [if_pos (.inr h2)]
        go_enter Tryz.func53, Tryz.ntmps53
        go_wp2
        go_ret
        exact ⟨rfl, rfl⟩
      · rw [if_neg (fun hc => by rcases hc with hc | hc; exact h1 hc; exact h2 hc)]
        go_enter Tryz.func53, Tryz.ntmps53
        go_wp2
        go_ret
        exact ⟨rfl, rfl⟩
  · rw [hg] at c2
    rw [if_pos rfl]
    go_enter Tryz.func53, Tryz.ntmps53
    go_wp2
    go_ret
    exact ⟨rfl, rfl⟩

theorem all_any (j : Int) (w : World) :
    Calls Tryz.prog 58 #[.int .i64 j] w fun e w' => e = .returned (.int .i64 32) ∧ w = w' := by
  go_enter Tryz.func58, Tryz.ntmps58
  go_wp2
  go_ret
  exact ⟨rfl, rfl⟩

theorem and15L (n : Nat) (h : n < 18446744073709551616) : bits .and .u64 (n : Int) 15 = ((n % 16 : Nat) : Int) := by
  have key : bits .and .u64 (n : Int) 15 = IntKind.u64.wrap (((BitVec.ofInt IntKind.u64.bits (n : Int) &&& BitVec.ofInt IntKind.u64.bits 15).toNat : Nat) : Int) := rfl
  have h1 : (BitVec.ofInt IntKind.u64.bits (n : Int) &&& BitVec.ofInt IntKind.u64.bits 15).toNat = n % 16 := by
    rw [BitVec.toNat_and]
    have e1 : (BitVec.ofInt IntKind.u64.bits (n : Int)).toNat = n := by
      rw [BitVec.ofInt_natCast, BitVec.toNat_ofNat]; exact Nat.mod_eq_of_lt h
    have e2 : (BitVec.ofInt IntKind.u64.bits 15).toNat = 2 ^ 4 - 1 := by decide
    rw [e1, e2, Nat.and_two_pow_sub_one_eq_mod]
  rw [key, h1]
  generalize hm : n % 16 = m
  have : m < 16 := by omega
  match m, this with
  | 0, _ | 1, _ | 2, _ | 3, _ | 4, _ | 5, _ | 6, _ | 7, _ | 8, _ | 9, _ | 10, _ | 11, _ | 12, _ | 13, _ | 14, _ | 15, _ => rfl
  | k + 16, h => exact absurd h (by omega)
theorem share_bits (keep j : Nat) (hk : keep < 18446744073709551616) : bits .and .u64 ((keep : Int) / 2 ^ (4 * (j % 16))) 15 = (share keep j : Int) := by
  have e : (keep : Int) / 2 ^ (4 * (j % 16)) = ((keep >>> (4 * (j % 16)) : Nat) : Int) := by
    rw [Nat.shiftRight_eq_div_pow]; push_cast; rfl
  rw [e, and15L _ (by rw [Nat.shiftRight_eq_div_pow]; exact Nat.lt_of_le_of_lt (Nat.div_le_self _ _) hk)]
  rfl

theorem kept_any (keep j : Nat) (w : World) (hk : keep < 18446744073709551616) (hj : j ≤ 1000) :
    Calls Tryz.prog 61 #[.int .u64 keep, .int .i64 j] w fun e w' => e = .returned (.int .i64 (part keep j)) ∧ w = w' := by
  have hs := share_bits keep j hk
  have hl := share_lt keep j
  unfold part
  generalize share keep j = t at hs hl ⊢
  have hw : wrap64 (t : Int) = t := IntWalk.wrap64_in _ (by omega)
  by_cases h15 : t = 15
  · subst h15
    rw [if_pos rfl]
    go_enter Tryz.func61, Tryz.ntmps61
    go_wp2
    go_ret
    exact ⟨rfl, rfl⟩
  · rw [if_neg h15]
    have h15' : ((t : Int) == 15) = false := by simp; omega
    go_enter Tryz.func61, Tryz.ntmps61
    go_wp2
    go_ret
    exact ⟨by simp, rfl⟩

theorem torn_any (C keep j : Nat) (w : World) (hC : w.cell? ⟨C, 0, none⟩ = some (.int .u64 keep)) (hk : keep < 18446744073709551616) (hj : j ≤ 1000) :
    Calls Tryz.prog 60 #[.int .i64 j, .pointer (some ⟨C, 0, none⟩)] w fun e w' => e = .returned (.int .i64 (part keep j)) ∧ w = w' := by
  have HK := Lib.hid (fun w => kept_any keep j w hk hj)
  generalize part keep j = t at HK ⊢
  go_enter Tryz.func60, Tryz.ntmps60
  go_wp2_with (go_at_call 61; refine (HK.out _).mono ?_; rintro e w1 ⟨rfl, rfl⟩)
  go_ret
  exact ⟨rfl, rfl⟩
end Go.Proofs.YtacdbfaoeioflaaGreatDoor

namespace Go.Proofs.YtacdbfaoeioflaaGreatDoor
open Go.RowKit

theorem info61 : (Tryz.prog.info? 97).map (·.size) = some 33 := by kernel_rfl
theorem info61' : (Tryz.prog.info? 97).map (fun i => (i.zero, i.size, i.bytes)) = some (some (.agg (wcells ⟨0, zeros 32⟩).toArray), 33, 40) := by kernel_rfl
theorem info5 : (Tryz.prog.info? 5).map (·.size) = some 1 := by kernel_rfl

/-- The write c is all that block D has. -/
def WB (w : World) (D : Nat) (c : Wr) : Prop := w.heap[D]? = some (.cells (wcells c).toArray 97 (0, 0))
theorem WB.fresh (w : World) (c : Wr) : WB (w.alloc (.cells (wcells c).toArray 97)) w.heap.size c := heap_alloc_new w _
theorem WB.lt {w : World} {D : Nat} {c : Wr} (h : WB w D c) : D < w.heap.size := (Array.getElem?_eq_some_iff.1 h).1
theorem WB.below {w w' : World} {D : Nat} {c : Wr} (h : WB w D c) (hb : Below w.heap.size w w') : WB w' D c := by unfold WB; rw [hb.block D h.lt]; exact h
theorem WB.kept {w w' : World} {F : Nat → Prop} {D : Nat} {c : Wr} (h : WB w D c) (hk : Keeps F w w') (hn : ¬ F D) : WB w' D c := by unfold WB; rw [hk.block D h.lt hn]; exact h
theorem WB.cellq {w : World} {D : Nat} {c : Wr} (h : WB w D c) (q : Nat) : w.cell? ⟨D, q, none⟩ = (wcells c)[q]? := by
  rw [cell_of_row w D q _ _ _ h]; simp
theorem WB.at0 {w : World} {D : Nat} {c : Wr} (h : WB w D c) : w.cell? ⟨D, 0, none⟩ = some (.int .i64 (c.i : Int)) := h.cellq 0
theorem WB.bytes {w : World} {D : Nat} {c : Wr} (h : WB w D c) : ∀ j v, (Lib.byteCells c.b)[j]? = some v → w.cell? ⟨D, 1 + j, none⟩ = some v := fun j v hv => by
  rw [h.cellq, show 1 + j = j + 1 by omega]; exact hv
theorem WB.range {w : World} {D : Nat} {c : Wr} (h : WB w D c) : w.rangeAt D 0 (wcells c) := fun j v hv => by rw [Nat.zero_add, h.cellq]; exact hv

/-- A write is stored whole into a block of its own. -/
theorem wpList_store_wr {ops : Array Oper} {rest : List Oper} {o : Oper} {a : Act} {w : World} {Q : Exit → Act → World → Prop} (hgd : o.guard = none) (x y : Operand) (ho : o.op = .store 97 x y)
    (D : Nat) (c : Wr) (hc : c.b.length = 32) (old : Array Value) (hx : a.eval x = .pointer (some ⟨D, 0, none⟩)) (hy : a.eval y = .agg (wcells c).toArray) (hD : w.heap[D]? = some (.cells old 97 (0, 0))) (hold : old.size = 33)
    (h : ∀ wF, WB wF D c → Below D w wF → wpList Tryz.prog ops Q rest (a.put o.dst undef) wF) : wpList Tryz.prog ops Q (o :: rest) a w :=
  wpList_store_row hgd 97 x y ho D (wcells c).toArray hx hy 97 old hD (by rw [info61]; simp [wcells_length hc]) (by simp [wcells_length hc, hold]) (all_oneCell_toArray (wcells_oneCell c))
    (h _ (setRow_heap w D old _ _ _ hD) (below_setRow (Below.refl D w) (Nat.le_refl D) _))

theorem byteAt_set {l : List (List UInt8)} {i : Nat} {m : List UInt8} (hi : i < l.length) (q : Nat) : byteAt (l.set i m) q = if q / 32 = i then m.getD (q % 32) 0 else byteAt l q := by
  unfold byteAt
  rw [getD_set hi]
  split <;> rfl
theorem mix_getD {k q : Nat} {new old : List UInt8} (hn : new.length = 32) (hk : k ≤ 32) : (mix k new old).getD q 0 = if q < k then new.getD q 0 else old.getD q 0 := by
  unfold mix
  simp only [List.getD_eq_getElem?_getD]
  have hl : (new.take k).length = k := by simp [hn]; omega
  by_cases h : q < k
  · rw [if_pos h, List.getElem?_append_left (by omega), List.getElem?_take, if_pos h]
  · rw [if_neg h, List.getElem?_append_right (by omega), List.getElem?_drop, hl, show k + (q - k) = q by omega]

/-- What lasts when the first j writes have taken place. -/
def at' (s : St) (f : Nat → Nat) (j : Nat) : St := { s with is := done f s.wait s.is j }
/-- The j-th write takes place in part: its bytes are copied. -/
theorem PBv.copied {w : World} {b : Nat} {s : St} {f : Nat → Nat} {j L K : Nat} {v : Value} (h : PBv w b (at' s f j) L K v) (hg : Good s) {x : Wr} (hx : s.wait[j]? = some x) (hf : f j ≤ 32) :
    ∃ cur : Array Value, w.heap[b]? = some (.cells cur 75 (0, 0)) ∧ (1 + x.i * 32) + ((Lib.byteCells x.b).take (f j)).length ≤ cur.size ∧
      PBv (w.setRow b (cur.toList.take (1 + x.i * 32) ++ ((Lib.byteCells x.b).take (f j) ++ cur.toList.drop ((1 + x.i * 32) + ((Lib.byteCells x.b).take (f j)).length))).toArray) b (at' s f (j + 1)) L K v := by
  obtain ⟨hxi, hxb⟩ := hg.wt x (List.mem_of_getElem? hx)
  have hhi := hg.hi
  have hl : ((Lib.byteCells x.b).take (f j)).length = f j := by simp [Lib.byteCells_length, hxb]; omega
  obtain ⟨cur, h1, h2, h3⟩ := row_copy h.row (1 + x.i * 32) ((Lib.byteCells x.b).take (f j)) (by rw [hl]; omega)
  refine ⟨cur, h1, by rw [hl, h2]; omega, h3.congr fun o ho => ?_, ?_, h.lf, h.lt, h.kt⟩
  · have hlen : (done f s.wait s.is (j + 1)).length = (done f s.wait s.is j).length := by rw [done_length, done_length]
    have hd := done_succ (is := s.is) (f := f) hx
    have hi : x.i < (done f s.wait s.is j).length := by rw [done_length]; exact hxi
    have key : ∀ q, byteAt (done f s.wait s.is (j + 1)) q = if q / 32 = x.i then (if q % 32 < f j then x.b.getD (q % 32) 0 else byteAt (done f s.wait s.is j) q) else byteAt (done f s.wait s.is j) q := fun q => by
      rw [hd, byteAt_set hi]
      by_cases e : q / 32 = x.i
      · rw [if_pos e, if_pos e, mix_getD hxb hf]
        split
        · rfl
        · unfold byteAt; rw [e]
      · rw [if_neg e, if_neg e]
    unfold pf
    show _ = if o = 0 then Value.int .i64 ((done f s.wait s.is (j + 1)).length : Int) else if o < 4097 then sc (done f s.wait s.is (j + 1)) (o - 1) else _
    rw [hlen]
    by_cases o0 : o = 0
    · subst o0; rw [if_pos (by omega), if_pos rfl, if_pos rfl]; rfl
    · by_cases oh : o < 4097
      · simp only [if_neg o0, if_pos oh]
        unfold sc
        rw [key]
        by_cases h5 : o < 1 + x.i * 32
        · rw [if_pos h5, if_neg (by omega)]; rfl
        · rw [if_neg h5]
          by_cases h6 : o - (1 + x.i * 32) < f j
          · rw [dif_pos (by rw [hl]; exact h6), if_pos (by omega), if_pos (by omega)]
            have hq : o - (1 + x.i * 32) = (o - 1) % 32 := by omega
            have hb : (o - 1) % 32 < x.b.length := by omega
            simp only [hq, List.getElem_take, Lib.byteCells, List.getElem_map]
            rw [List.getD_eq_getElem?_getD, List.getElem?_eq_getElem hb]; rfl
          · rw [dif_neg (by rw [hl]; exact h6)]
            by_cases h7 : (o - 1) / 32 = x.i
            · rw [if_pos h7, if_neg (by omega)]; rfl
            · rw [if_neg h7]; rfl
      · rw [if_neg (by omega), dif_neg (by rw [hl]; omega)]
        simp only [if_neg o0, if_neg oh]
        rfl
  · exact owns_kept h.own fun g hg => by
      rw [setRow_other w b g _ (fun e => h.ne (by rw [hg, e]))]

section
variable {P : Program}
/-- Cells are copied into a row that is known whole, at a step of a region that draws its order. -/
theorem step_copy_row {ops : Array Oper} {o : Oper} {a : Act} {w : World} {K : Act → World → Prop} {Q : Exit → Act → World → Prop} {E : Prop} (hgd : o.guard = none) (d s : Operand) (dT sT : TypeId)
    (ho : o.op = .call { callee := .builtin .copy, args := #[d, s], argTypes := #[dT, sT] }) (elem : TypeId) (hu : P.underlying dT = some (.slice elem)) (hsz : (P.info? elem).map (·.size) = some 1)
    (g off dLen dCap : Nat) (ad : Addr) (sLen sCap : Nat) (hd : a.eval d = .slice (some ⟨g, off, none⟩) dLen dCap) (hs : a.eval s = .slice (some ad) sLen sCap)
    (cur : Array Value) (t : TypeId) (hg : w.heap[g]? = some (.cells cur t (0, 0))) (cs : List Value) (hn : cs.length = Nat.min sLen dLen)
    (hsrc : ∀ j v, cs[j]? = some v → w.cell? (ad.add j) = some v) (hfit : off + cs.length ≤ cur.size) (h1 : ∀ v ∈ cs, v.oneCell' = true)
    (h : K (a.put o.dst (goInt cs.length)) (w.setRow g (cur.toList.take off ++ (cs ++ cur.toList.drop (off + cs.length))).toArray)) :
    if Region.wanted o (yielded ops a.tmps) = true then Oper.wp P o a w K Q else E := by
  have hw : Region.wanted o (yielded ops a.tmps) = true := by simp [Region.wanted, hgd]
  rw [if_pos hw]
  have hrun := run_copy_row (P := P) w dT sT o.type elem g off dLen dCap ad sLen sCap cur t cs hu hsz hg hn hsrc hfit h1
  unfold Oper.wp
  simp [execOp, ho, resolve, invoke, builtin, hd, hs, hrun, Result.andThen]
  exact h
end
/-- The j-th write takes place in part, at that step. -/
theorem step_settle {ops : Array Oper} {o : Oper} {a : Act} {w : World} {Kk : Act → World → Prop} {Q : Exit → Act → World → Prop} {E : Prop} (hgd : o.guard = none) (d e : Operand)
    (ho : o.op = .call { callee := .builtin .copy, args := #[d, e], argTypes := #[98, 98] })
    (b : Nat) (s : St) (f : Nat → Nat) (j L K : Nat) (v : Value) (h : PBv w b (at' s f j) L K v) (hg : Good s) (x : Wr) (hx : s.wait[j]? = some x) (hf : f j ≤ 32) (D : Nat) (hD : WB w D x)
    (hd : a.eval d = .slice (some ⟨b, 1 + x.i * 32, none⟩) (f j) 32) (he : a.eval e = .slice (some ⟨D, 1, none⟩) 32 32)
    (hK : ∀ w', PBv w' b (at' s f (j + 1)) L K v → Keeps (· = b) w w' → Kk (a.put o.dst (.int .i64 (f j))) w') :
    if Region.wanted o (yielded ops a.tmps) = true then Oper.wp Tryz.prog o a w Kk Q else E := by
  obtain ⟨cur, h1, h2, h3⟩ := h.copied hg hx hf
  have hxb := (hg.wt x (List.mem_of_getElem? hx)).2
  have hl : ((Lib.byteCells x.b).take (f j)).length = f j := by simp [Lib.byteCells_length, hxb]; omega
  refine step_copy_row hgd d e _ _ ho 5 Tryz.underlying98 info5 b (1 + x.i * 32) (f j) 32 ⟨D, 1, none⟩ 32 32 hd he cur _ h1 ((Lib.byteCells x.b).take (f j)) (by rw [hl]; exact (Nat.min_eq_right hf).symm) ?_ h2 (fun u hu => Lib.byteCells_one _ u (List.mem_of_mem_take hu)) ?_
  · intro q u hu
    rw [List.getElem?_take] at hu
    split at hu
    · rw [Go.WideShapes.add_plain]; exact hD.bytes q u hu
    · simp at hu
  · have := hK _ h3 ((Keeps.refl (fun k => k = b) w).setRow (b := b) (.inl rfl) _)
    rw [hl] at this ⊢
    exact this
end Go.Proofs.YtacdbfaoeioflaaGreatDoor

namespace Go.Proofs.YtacdbfaoeioflaaGreatDoor
open Go.RowKit

theorem pf_waits (s : St) (ws : List Wr) (L K : Nat) (v u : Value) (o : Nat) : (if o = 4097 then u else pf s L K v o) = pf { s with wait := ws } L K u o := by
  unfold pf
  by_cases h : o = 4097
  · subst h; simp
  · simp [h]
/-- What waits is another row. -/
theorem PBv.setWaits {w : World} {b : Nat} {s : St} {L K : Nat} {v u : Value} {ws : List Wr} (h : PBv w b s L K v) (ho : w.ownsRow 0 97 33 u ws.length (flat ws)) : PBv (w.setCell ⟨b, 4097, none⟩ u) b { s with wait := ws } L K u :=
  ⟨(h.row.set 4097 u).congr fun o _ => pf_waits s ws L K v u o, owns_kept ho fun g hg => Below.heap_setCell _ _ _ _ (fun e => owns_ne ho h.row (by decide) (by rw [hg]; exact congrArg some e)), h.lf, h.lt, h.kt⟩

set_option maxRecDepth 100000 in
set_option maxHeartbeats 2000000 in
theorem settle_all (b : Nat) (s : St) (L K : Nat) (v : Value) (w : World) (h : PBv w b s L K v) (hg : Good s) (hn : s.wait.length ≤ 1000) :
    Calls Tryz.prog 57 #[.pointer (some ⟨b, 0, none⟩), .func (.func 58) #[] #[]] w fun e w' => e = .returned (.tuple #[]) ∧ PBv w' b { s with is := done (fun _ => 32) s.wait s.is s.wait.length, wait := [] } L K (.slice none 0 0) ∧ Keeps (fun k => k = b) w w' := by
  obtain ⟨-, c1, -⟩ := h.cells
  have hhi := hg.hi
  have hform := owns_form (f := wcells) h.own (fun x hx => wcells_length (hg.wt x hx).2)
  have hbl := h.row.lt
  have HG := Lib.hid hg
  have H0 := Lib.hid h
  have HN := Lib.hid h.ne
  clear h hg
  rcases hform with ⟨rfl, h0⟩ | ⟨g, cap, rfl, hgl, hcap, hcm, hat⟩
  · have H1 := Lib.hid h0
    have f0 := H0.out.row.frozen 4097
    clear h0
    go_enter Tryz.func57, Tryz.ntmps57
    go_wp2
    go_loopw [11] (fun jv wr => jv = .int .i64 0 ∧ wr = w) (fun _ _ => 0)
    case atStart => exact ⟨rfl, rfl⟩
    case round =>
      obtain ⟨rfl, rfl⟩ := hrel
      go_wp2
      go_end0
      refine ⟨rfl, ?_, (Keeps.refl (fun k => k = b) _).set (b := b) (.inl rfl) _⟩
      have e : ({ s with is := done (fun _ => 32) s.wait s.is s.wait.length, wait := [] } : St) = { s with wait := [] } := by rw [H1.out]; rfl
      rw [e]
      exact H0.out.setWaits (World.ownsRow_nil _ _ _ _)
  · have HAT := Lib.hid hat
    have HGL := Lib.hid hgl
    clear hat hgl
    unfold maxLen at hcm
    go_enter Tryz.func57, Tryz.ntmps57
    go_wp2
    go_loopw [11] (fun jv wr => ∃ j : Nat, j ≤ s.wait.length ∧ jv = .int .i64 j ∧ PBv wr b (at' s (fun _ => 32) j) L K (.slice (some ⟨g, 0, none⟩) s.wait.length cap) ∧ Keeps (fun k => k = b) w wr) (fun jv _ => s.wait.length - (intOf jv).toNat)
    case atStart => exact ⟨0, Nat.zero_le _, rfl, H0.out, Keeps.refl _ _⟩
    case round =>
      obtain ⟨j, hj, rfl, hP, hK⟩ := hrel
      have P1 := Lib.hid hP
      have K1 := Lib.hid hK
      clear hP hK H0 c1
      by_cases hlt : j < s.wait.length
      · obtain ⟨x, hx⟩ : ∃ x, s.wait[j]? = some x := ⟨_, List.getElem?_eq_getElem hlt⟩
        obtain ⟨hxi, hx32⟩ := HG.out.wt x (List.mem_of_getElem? hx)
        have hr := HAT.out j x hx
        have hgb : g ≠ b := fun e => HN.out (by subst e; rfl)
        have HR := Lib.hid (show wr.rangeAt g (j * 33) (wcells x) from fun q u hu => K1.out.cell (hr q u hu) hgb)
        have H32 := Lib.hid hx32
        have hlI : (j : Int) < (s.wait.length : Int) := by omega
        have hj0 : (0 : Int) ≤ (j : Int) := by omega
        have HX := Lib.hid hx
        clear hr hx hx32 hgb
        go_wp2_with (first
          | (with_reducible show wpList _ _ _ (Oper.mk _ (Op.load 97 _) _ _ _ _ :: _) _ _; refine wpList_load_mid rfl 97 (.tmp 14) rfl g (j * 33) rfl (wcells x) _ HR.out Tryz.underlying97 rfl (by rw [info61, wcells_length H32.out]) ?_)
          | (with_reducible show wpList _ _ _ (Oper.mk none (Op.store 97 _ _) _ _ _ _ :: _) _ _; refine wpList_store_wr rfl (.tmp 5) (.tmp 15) rfl wr.heap.size x H32.out _ rfl rfl (heap_alloc_new wr _) rfl ?_; intro wF hWB hBF))
        have hb1 : Below wr.heap.size wr wF := ((Below.refl _ wr).alloc (Nat.le_refl _) _).trans hBF
        have hb2 : Below wr.heap.size wr wF.drew := hb1.drew
        have PD := Lib.hid (P1.out.below hb2)
        have KD := Lib.hid (K1.out.then_below hb2)
        have WD := Lib.hid (show WB wF.drew wr.heap.size x from hWB)
        have hc0 := WD.out.at0
        have hx0 : (0 : Int) ≤ (x.i : Int) := by omega
        have hx1 : (x.i : Int) < 128 := by omega
        have hzb : ¬ wr.heap.size = b := by have := K1.out.size; omega
        skip
        clear hb1 hb2 hBF hWB
        go_region_held3 (fun w' => w'.cell? ⟨wr.heap.size, 0, none⟩ = some (.int .i64 x.i)) (first | assumption | fail)
          (first
            | (go_at_call 58; refine (all_any _ _).mono ?_; rintro e w1 ⟨rfl, rfl⟩)
            | (refine step_settle rfl (.tmp 25) (.tmp 27) (by rfl) b s (fun _ => 32) j L K _ PD.out HG.out x HX.out (by omega) wr.heap.size WD.out (by rfl) (by rfl) ?_; intro w2 hp hk; have hc2 := hk.cell hc0 hzb; have P2 := Lib.hid hp; have K2 := Lib.hid (KD.out.trans hk (fun _ h => .inl h)); clear hp hk)
            | fail)
        go_wp2
        go_roundw
        case rel => exact ⟨j + 1, by omega, by go_num, P2.out, K2.out⟩
        case measure => simp [intOf]; omega
      · obtain rfl : j = s.wait.length := by omega
        have hlI : ¬ ((s.wait.length : Int) < (s.wait.length : Int)) := by omega
        have f0 := P1.out.row.frozen 4097
        have c1 := P1.out.cells.2.1
        go_wp2
        go_end0
        exact ⟨rfl, P1.out.setWaits (World.ownsRow_nil _ _ _ _), K1.out.set (.inl rfl) _⟩

set_option maxRecDepth 100000 in
set_option maxHeartbeats 2000000 in
theorem settle_torn (b : Nat) (s : St) (L K : Nat) (v : Value) (C keep : Nat) (w : World) (h : PBv w b s L K v) (hg : Good s) (hn : s.wait.length ≤ 1000) (HC : Hid (w.cell? ⟨C, 0, none⟩ = some (.int .u64 keep))) (HCb : Hid (C ≠ b)) (hkp : keep < 18446744073709551616) :
    Calls Tryz.prog 57 #[.pointer (some ⟨b, 0, none⟩), .func (.func 60) #[] #[.pointer (some ⟨C, 0, none⟩)]] w fun e w' => e = .returned (.tuple #[]) ∧ PBv w' b { s with is := done (part keep) s.wait s.is s.wait.length, wait := [] } L K (.slice none 0 0) ∧ Keeps (fun k => k = b) w w' := by
  obtain ⟨-, c1, -⟩ := h.cells
  have hhi := hg.hi
  have hform := owns_form (f := wcells) h.own (fun x hx => wcells_length (hg.wt x hx).2)
  have hbl := h.row.lt
  have HG := Lib.hid hg
  have H0 := Lib.hid h
  have HN := Lib.hid h.ne
  clear h hg
  rcases hform with ⟨rfl, h0⟩ | ⟨g, cap, rfl, hgl, hcap, hcm, hat⟩
  · have H1 := Lib.hid h0
    have f0 := H0.out.row.frozen 4097
    clear h0
    go_enter Tryz.func57, Tryz.ntmps57
    go_wp2
    go_loopw [11] (fun jv wr => jv = .int .i64 0 ∧ wr = w) (fun _ _ => 0)
    case atStart => exact ⟨rfl, rfl⟩
    case round =>
      obtain ⟨rfl, rfl⟩ := hrel
      go_wp2
      go_end0
      refine ⟨rfl, ?_, (Keeps.refl (fun k => k = b) _).set (b := b) (.inl rfl) _⟩
      have e : ({ s with is := done (part keep) s.wait s.is s.wait.length, wait := [] } : St) = { s with wait := [] } := by rw [H1.out]; rfl
      rw [e]
      exact H0.out.setWaits (World.ownsRow_nil _ _ _ _)
  · have HAT := Lib.hid hat
    have HGL := Lib.hid hgl
    clear hat hgl
    unfold maxLen at hcm
    go_enter Tryz.func57, Tryz.ntmps57
    go_wp2
    go_loopw [11] (fun jv wr => ∃ j : Nat, j ≤ s.wait.length ∧ jv = .int .i64 j ∧ PBv wr b (at' s (part keep) j) L K (.slice (some ⟨g, 0, none⟩) s.wait.length cap) ∧ Keeps (fun k => k = b) w wr) (fun jv _ => s.wait.length - (intOf jv).toNat)
    case atStart => exact ⟨0, Nat.zero_le _, rfl, H0.out, Keeps.refl _ _⟩
    case round =>
      obtain ⟨j, hj, rfl, hP, hK⟩ := hrel
      have P1 := Lib.hid hP
      have K1 := Lib.hid hK
      clear hP hK H0 c1
      by_cases hlt : j < s.wait.length
      · obtain ⟨x, hx⟩ : ∃ x, s.wait[j]? = some x := ⟨_, List.getElem?_eq_getElem hlt⟩
        obtain ⟨hxi, hx32⟩ := HG.out.wt x (List.mem_of_getElem? hx)
        have hr := HAT.out j x hx
        have hgb : g ≠ b := fun e => HN.out (by subst e; rfl)
        have HR := Lib.hid (show wr.rangeAt g (j * 33) (wcells x) from fun q u hu => K1.out.cell (hr q u hu) hgb)
        have H32 := Lib.hid hx32
        have hlI : (j : Int) < (s.wait.length : Int) := by omega
        have hj0 : (0 : Int) ≤ (j : Int) := by omega
        have HX := Lib.hid hx
        clear hr hx hx32 hgb
        go_wp2_with (first
          | (with_reducible show wpList _ _ _ (Oper.mk _ (Op.load 97 _) _ _ _ _ :: _) _ _; refine wpList_load_mid rfl 97 (.tmp 14) rfl g (j * 33) rfl (wcells x) _ HR.out Tryz.underlying97 rfl (by rw [info61, wcells_length H32.out]) ?_)
          | (with_reducible show wpList _ _ _ (Oper.mk none (Op.store 97 _ _) _ _ _ _ :: _) _ _; refine wpList_store_wr rfl (.tmp 5) (.tmp 15) rfl wr.heap.size x H32.out _ rfl rfl (heap_alloc_new wr _) rfl ?_; intro wF hWB hBF))
        have hb1 : Below wr.heap.size wr wF := ((Below.refl _ wr).alloc (Nat.le_refl _) _).trans hBF
        have hb2 : Below wr.heap.size wr wF.drew := hb1.drew
        have PD := Lib.hid (P1.out.below hb2)
        have KD := Lib.hid (K1.out.then_below hb2)
        have WD := Lib.hid (show WB wF.drew wr.heap.size x from hWB)
        have hc0 := WD.out.at0
        have hx0 : (0 : Int) ≤ (x.i : Int) := by omega
        have hx1 : (x.i : Int) < 128 := by omega
        have hzb : ¬ wr.heap.size = b := by have := K1.out.size; omega
        have hpl := part_le keep j
        have hp0 : (0 : Int) ≤ (part keep j : Int) := by omega
        have hp1 : (part keep j : Int) ≤ 32 := by omega
        have HT := Lib.hid (torn_any C keep j wF.drew (by have h1 := K1.out.cell HC.out (fun e => HCb.out e); exact (hb2.cell (p := ⟨C, 0, none⟩) (World.block_lt_of_cell? _ _ h1)).trans h1) hkp (by omega))
        have HPL := Lib.hid hpl
        clear hpl
        clear hb1 hb2 hBF hWB
        go_region_held3 (fun w' => w'.cell? ⟨wr.heap.size, 0, none⟩ = some (.int .i64 x.i)) (first | assumption | fail)
          (first
            | (go_at_call 60; refine HT.out.mono ?_; rintro e w1 ⟨rfl, rfl⟩)
            | (refine step_settle rfl (.tmp 25) (.tmp 27) (by rfl) b s (part keep) j L K _ PD.out HG.out x HX.out HPL.out wr.heap.size WD.out (by rfl) (by rfl) ?_; intro w2 hp hk; have hc2 := hk.cell hc0 hzb; have P2 := Lib.hid hp; have K2 := Lib.hid (KD.out.trans hk (fun _ h => .inl h)); clear hp hk)
            | fail)
        go_wp2
        go_roundw
        case rel => exact ⟨j + 1, by omega, by go_num, P2.out, K2.out⟩
        case measure => simp [intOf]; omega
      · obtain rfl : j = s.wait.length := by omega
        have hlI : ¬ ((s.wait.length : Int) < (s.wait.length : Int)) := by omega
        have f0 := P1.out.row.frozen 4097
        have c1 := P1.out.cells.2.1
        go_wp2
        go_end0
        exact ⟨rfl, P1.out.setWaits (World.ownsRow_nil _ _ _ _), K1.out.set (.inl rfl) _⟩
end Go.Proofs.YtacdbfaoeioflaaGreatDoor

namespace Go.Proofs.YtacdbfaoeioflaaGreatDoor
open Go.RowKit

theorem PBv.pb {w : World} {b : Nat} {s : St} {L K : Nat} {v : Value} (h : PBv w b s L K v) : PB w b s (fun k => k = b ∨ v.ownBlock = some k) := ⟨L, K, v, h, fun _ => Iff.rfl⟩
/-- One of the plate's own cells is stored. -/
theorem PBv.set {w : World} {b : Nat} {s s' : St} {L K L' K' : Nat} {v : Value} (h : PBv w b s L K v) (i : Nat) (x : Value) (hw : s'.wait = s.wait) (he : ∀ o, (if o = i then x else pf s L K v o) = pf s' L' K' v o)
    (lf : s'.gone = false → L' = s'.left ∧ (s'.left ≠ 0 → K' = s'.keep)) (lt : L' < 9223372036854775808) (kt : K' < 18446744073709551616) : PBv (w.setCell ⟨b, i, none⟩ x) b s' L' K' v :=
  ⟨(h.row.set i x).congr fun o _ => he o, by rw [hw]; exact owns_kept h.own fun g hg => Below.heap_setCell _ _ _ _ (fun e => h.ne (by rw [hg]; exact congrArg some e)), lf, lt, kt⟩
theorem PBv.same {w : World} {b : Nat} {s s' : St} {L K : Nat} {v : Value} (h : PBv w b s L K v) (h1 : s'.is = s.is) (hw : s'.wait = s.wait) (hg : s'.gone = s.gone) (hn : s'.n = s.n)
    (lf : s'.gone = false → L = s'.left ∧ (s'.left ≠ 0 → K = s'.keep)) : PBv w b s' L K v :=
  ⟨h.row.congr fun o _ => by unfold pf; rw [h1, hg, hn], by rw [hw]; exact h.own, lf, h.lt, h.kt⟩
theorem PBv.setDead {w : World} {b : Nat} {s : St} {L K : Nat} {v : Value} (h : PBv w b s L K v) : PBv (w.setCell ⟨b, 4098, none⟩ (.bool true)) b { s with gone := true } L K v :=
  h.set 4098 _ rfl (fun o => by unfold pf; by_cases e : o = 4098 <;> simp [e]) (fun e => by cases e) h.lt h.kt
theorem PBv.setN {w : World} {b : Nat} {s : St} {L K : Nat} {v : Value} (h : PBv w b s L K v) (n : Nat) : PBv (w.setCell ⟨b, 4099, none⟩ (.int .i64 (n : Int))) b { s with n := n } L K v :=
  h.set 4099 _ rfl (fun o => by unfold pf; by_cases e : o = 4099 <;> simp [e]) h.lf h.lt h.kt
theorem PBv.setLeft {w : World} {b : Nat} {s : St} {L K : Nat} {v : Value} (h : PBv w b s L K v) (l : Nat) (hl : l < 9223372036854775808) (hk : s.gone = false → l ≠ 0 → K = s.keep) : PBv (w.setCell ⟨b, 4100, none⟩ (.int .i64 (l : Int))) b { s with left := l } l K v :=
  h.set 4100 _ rfl (fun o => by unfold pf; by_cases e : o = 4100 <;> simp [e]) (fun e => ⟨rfl, fun e' => hk e e'⟩) hl h.kt
theorem PB.v {w : World} {b : Nat} {s : St} {F : Nat → Prop} (h : PB w b s F) : ∃ L K v, PBv w b s L K v ∧ ∀ k, k = b ∨ v.ownBlock = some k → F k := by
  obtain ⟨L, K, v, h1, h2⟩ := h; exact ⟨L, K, v, h1, fun k hk => (h2 k).2 hk⟩
/-- A plate that goes on in the blocks that it had. -/
theorem Goes.plate {F : Nat → Prop} {w w' : World} {b : Nat} {s : St} {L K : Nat} {v : Value} (h : PBv w' b s L K v) (hb : F b) (hv : ∀ k, v.ownBlock = some k → F k ∨ w.heap.size ≤ k) (hk : Keeps F w w') : Goes F w w' (PB w' b s) :=
  ⟨_, h.pb, fun k hk => by rcases hk with rfl | hk; (exact .inl hb); (exact hv k hk), hk⟩
theorem Keeps.wider {F G : Nat → Prop} {w w' : World} (h : Keeps F w w') (hF : ∀ k, F k → G k) : Keeps G w w' := ⟨h.os, h.tape, h.output, h.size, fun k hk hn => h.block k hk (fun e => hn (hF k e))⟩

set_option maxRecDepth 100000 in
set_option maxHeartbeats 2000000 in
theorem crash_any (b : Nat) (s : St) (F : Nat → Prop) (keep : Nat) (w : World) (h : PB w b s F) (hg : Good s) (hn : s.wait.length ≤ 1000) (hk : keep < 18446744073709551616) :
    Calls Tryz.prog 23 #[.pointer (some ⟨b, 0, none⟩), .int .u64 keep] w fun e w' => e = .returned (.tuple #[]) ∧ Goes F w w' (PB w' b (crash s keep)) := by
  have hbF := h.mem
  have hbl := h.lt b hbF
  have hba : Below w.heap.size w (w.alloc (.cells #[.int .u64 keep] 38)) := (Below.refl _ _).alloc (Nat.le_refl _) _
  have HP0 := Lib.hid (h.below hba)
  obtain ⟨L, K, v, h, hF⟩ := h.v
  have h1 := h.below hba
  obtain ⟨-, -, c2, -⟩ := h1.cells
  have HB := Lib.hid hba
  have HP := Lib.hid h1
  have HG := Lib.hid hg
  cases hgo : s.gone
  · have e1 : crash s keep = { { { s with gone := true } with is := done (part keep) s.wait s.is s.wait.length, wait := [] } with left := 0 } := by unfold crash; rw [if_neg (by simp [hgo])]
    rw [e1]
    rw [hgo] at c2
    have f2 := h1.row.frozen 4098
    have hsz : (w.setCell ⟨b, 4098, none⟩ (.bool true)).heap.size = w.heap.size := by simp [World.setCell]
    have hbb : Below (w.setCell ⟨b, 4098, none⟩ (.bool true)).heap.size (w.setCell ⟨b, 4098, none⟩ (.bool true)) ((w.setCell ⟨b, 4098, none⟩ (.bool true)).alloc (.cells #[.int .u64 keep] 38)) := (Below.refl _ _).alloc (Nat.le_refl _) _
    have P2 := Lib.hid (h.setDead.below hbb)
    have HC := Lib.hid (show ((w.setCell ⟨b, 4098, none⟩ (.bool true)).alloc (.cells #[.int .u64 keep] 38)).cell? ⟨w.heap.size, 0, none⟩ = some (.int .u64 keep) from by
      rw [← hsz, cell_of_row _ _ _ _ _ _ (heap_alloc_new _ _)]; rfl)
    have HS := Lib.hid (settle_torn b { s with gone := true } L K v w.heap.size keep _ P2.out ⟨hg.sec, hg.wt, hg.lo, hg.hi, hg.lf, hg.kp⟩ hn HC (Lib.hid (by omega)) hk)
    have K0 := Lib.hid ((((Keeps.refl F w).set (b := b) (o := 4098) (.inl hbF) (.bool true))).then_below hbb)
    clear h h1 hba hg e1 hsz hbb
    go_enter Tryz.func23, Tryz.ntmps23
    go_wp2_with (go_at_call 57; refine HS.out.mono ?_; rintro e w1 ⟨rfl, k1, k2⟩; have K1 := Lib.hid k1; have K2 := Lib.hid k2; clear k1 k2)
    go_end0
    refine ⟨rfl, Goes.plate (K1.out.same rfl rfl rfl rfl (fun e => by cases e)) hbF (fun k hk => by simp [Value.ownBlock] at hk) ?_⟩
    exact K0.out.trans K2.out (fun k hk => .inl (by rw [hk]; exact hbF))
  · have e1 : crash s keep = s := by unfold crash; rw [if_pos hgo]
    rw [e1]
    rw [hgo] at c2
    clear h h1 hba hg e1
    go_enter Tryz.func23, Tryz.ntmps23
    go_wp2
    exact bodyPost_ret (results_none rfl _ _ _) rfl ⟨rfl, Goes.same HP0.out (Keeps.of_below HB.out)⟩

set_option maxRecDepth 100000 in
set_option maxHeartbeats 2000000 in
theorem count_any (b : Nat) (s : St) (F : Nat → Prop) (w : World) (h : PB w b s F) (hg : Good s) (hgo : s.gone = false) (hn : s.wait.length ≤ 1000) (hc : s.n ≤ 1000000) :
    Calls Tryz.prog 54 #[.pointer (some ⟨b, 0, none⟩)] w fun e w' => e = .returned (.int .i64 (countE s)) ∧ Goes F w w' (PB w' b (count s)) := by
  unfold countE
  have hbF := h.mem
  obtain ⟨L, K, v, h, hF⟩ := h.v
  obtain ⟨-, -, -, c3, c4, c5⟩ := h.cells
  have f3 := h.row.frozen 4099
  have f4 := h.row.frozen 4100
  obtain ⟨hL, hK⟩ := h.lf hgo
  have hlt := h.lt
  have P1 := Lib.hid (h.setN (s.n + 1))
  have K1 := Lib.hid ((Keeps.refl F w).set (b := b) (o := 4099) (.inl hbF) (.int .i64 ((s.n + 1 : Nat) : Int)))
  have hcast : ((s.n + 1 : Nat) : Int) = (s.n : Int) + 1 := by push_cast; rfl
  rw [hcast] at P1 K1
  subst hL
  clear hcast
  by_cases h0 : s.left = 0
  · have e1 : count s = { s with n := s.n + 1 } := by unfold count; rw [if_pos h0]
    rw [e1, if_neg (by omega)]
    rw [h0] at c4
    have HK := Lib.hid hF
    clear h hK e1 hF
    go_enter Tryz.func54, Tryz.ntmps54
    go_wp2
    go_ret
    exact ⟨rfl, Goes.plate P1.out hbF (fun k hk => .inl (HK.out k (.inr hk))) K1.out⟩
  · have hkk := hK h0
    by_cases h1 : s.left = 1
    · have e1 : count s = crash { { s with n := s.n + 1 } with left := 0 } s.keep := by unfold count; rw [if_neg h0, if_pos h1]
      rw [e1, if_pos h1]
      have P2 := Lib.hid (P1.out.setLeft 0 (by omega) (fun _ e => absurd rfl e))
      have K2 := Lib.hid (K1.out.set (b := b) (o := 4100) (.inl hbF) (.int .i64 ((0 : Nat) : Int)))
      have HC := Lib.hid (crash_any b { { s with n := s.n + 1 } with left := 0 } _ s.keep _ P2.out.pb ⟨hg.sec, hg.wt, hg.lo, hg.hi, by show 0 < _; omega, hg.kp⟩ hn hg.kp)
      have HF := Lib.hid hF
      have hc0 : ((0 : Nat) : Int) = 0 := rfl
      rw [hc0] at HC K2
      rw [hkk] at c5
      rw [h1] at c4
      clear h hK e1 hF hkk hg hc0 P1 K1 P2 h0 h1
      go_enter Tryz.func54, Tryz.ntmps54
      go_wp2_with (go_at_call 23; refine HC.out.mono ?_; rintro e w1 ⟨rfl, k1⟩; have K3 := Lib.hid k1; clear k1)
      go_ret
      exact ⟨rfl, Goes.trans (fun k hk => .inl (HF.out k hk)) (K2.out.wider (fun _ h => h)) K3.out⟩
    · have e1 : count s = { { s with n := s.n + 1 } with left := s.left - 1 } := by unfold count; rw [if_neg h0, if_neg h1]
      rw [e1, if_neg h1]
      have P2 := Lib.hid (P1.out.setLeft (s.left - 1) (by omega) (fun _ _ => hkk))
      have K2 := Lib.hid (K1.out.set (b := b) (o := 4100) (.inl hbF) (.int .i64 ((s.left - 1 : Nat) : Int)))
      have hcast : ((s.left - 1 : Nat) : Int) = (s.left : Int) - 1 := by omega
      rw [hcast] at P2 K2
      have HF := Lib.hid hF
      have h1I : (1 : Int) < (s.left : Int) := by omega
      clear h hK e1 hF hkk hg hcast P1 K1 h0 h1 hgo
      go_enter Tryz.func54, Tryz.ntmps54
      go_wp2
      go_ret
      exact ⟨rfl, Goes.plate P2.out hbF (fun k hk => .inl (HF.out k (.inr hk))) K2.out⟩

theorem PBv.setOrder {w : World} {b : Nat} {s : St} {L K : Nat} {v : Value} (h : PBv w b s L K v) (l k : Nat) (hl : l < 9223372036854775808) (hk : k < 18446744073709551616) (s' : St) (h1 : s'.is = s.is) (hw : s'.wait = s.wait) (hg : s'.gone = s.gone) (hn : s'.n = s.n)
    (lf : s'.gone = false → l = s'.left ∧ (s'.left ≠ 0 → k = s'.keep)) : PBv ((w.setCell ⟨b, 4100, none⟩ (.int .i64 (l : Int))).setCell ⟨b, 4101, none⟩ (.int .u64 (k : Int))) b s' l k v := by
  have e1 : PBv (w.setCell ⟨b, 4100, none⟩ (.int .i64 (l : Int))) b { s with gone := true } l K v ∨ True := .inr trivial
  refine ⟨((h.row.set 4100 (.int .i64 (l : Int))).set 4101 (.int .u64 (k : Int))).congr fun o _ => ?_, ?_, lf, hl, hk⟩
  · unfold pf
    rw [h1, hg, hn]
    by_cases e : o = 4101
    · simp [e]
    · by_cases e' : o = 4100
      · simp [e']
      · simp only [e, e', if_false]
        split
        · rfl
        · split
          · rfl
          · split
            · rfl
            · split
              · rfl
              · split
                · rfl
                · next h1 h2 h3 h4 h5 => exfalso; omega
  · rw [hw]
    exact owns_kept h.own fun g hg => by
      rw [Below.heap_setCell _ _ _ _ (fun e => h.ne (by rw [hg]; exact congrArg some e)), Below.heap_setCell _ _ _ _ (fun e => h.ne (by rw [hg]; exact congrArg some e))]

set_option maxRecDepth 100000 in
set_option maxHeartbeats 2000000 in
theorem cut_any (b : Nat) (s : St) (F : Nat → Prop) (k : Int) (keep : Nat) (w : World) (h : PB w b s F) (hk : k < 9223372036854775808) (hkp : keep < 18446744073709551616) :
    Calls Tryz.prog 15 #[.pointer (some ⟨b, 0, none⟩), .int .i64 k, .int .u64 keep] w fun e w' => e = .returned (.tuple #[]) ∧ Goes F w w' (PB w' b (cut s k keep)) := by
  have hbF := h.mem
  obtain ⟨L, K, v, h, hF⟩ := h.v
  obtain ⟨-, -, -, -, c4, c5⟩ := h.cells
  have f4 := h.row.frozen 4100
  have f5 := h.row.frozen 4101
  have P1 := Lib.hid (h.setOrder k.toNat keep (by omega) hkp (cut s k keep) rfl rfl rfl rfl (fun _ => ⟨rfl, fun _ => rfl⟩))
  have K1 := Lib.hid (((Keeps.refl F w).set (b := b) (o := 4100) (.inl hbF) (.int .i64 (k.toNat : Int))).set (b := b) (o := 4101) (.inl hbF) (.int .u64 (keep : Int)))
  have HF := Lib.hid hF
  clear h hF
  by_cases h0 : 0 ≤ k
  · have e : (k.toNat : Int) = k := by omega
    rw [e] at P1 K1
    go_enter Tryz.func15, Tryz.ntmps15
    go_wp2
    go_end0
    exact ⟨rfl, Goes.plate P1.out hbF (fun k hk => .inl (HF.out k (.inr hk))) K1.out⟩
  · have e : (k.toNat : Int) = 0 := by omega
    rw [e] at P1 K1
    clear e
    go_enter Tryz.func15, Tryz.ntmps15
    go_wp2
    go_end0
    exact ⟨rfl, Goes.plate P1.out hbF (fun k hk => .inl (HF.out k (.inr hk))) K1.out⟩

set_option maxRecDepth 100000 in
set_option maxHeartbeats 2000000 in
theorem power_any (b : Nat) (s : St) (F : Nat → Prop) (w : World) (h : PB w b s F) :
    Calls Tryz.prog 25 #[.pointer (some ⟨b, 0, none⟩)] w fun e w' => e = .returned (.tuple #[]) ∧ Goes F w w' (PB w' b (power s)) := by
  have hbF := h.mem
  obtain ⟨L, K, v, h, hF⟩ := h.v
  obtain ⟨-, -, c2, -, c4, c5⟩ := h.cells
  have f2 := h.row.frozen 4098
  have f4 := h.row.frozen 4100
  have f5 := h.row.frozen 4101
  have P0 : PBv (w.setCell ⟨b, 4098, none⟩ (.bool false)) b { s with gone := false, left := L, keep := K } L K v :=
    h.set 4098 _ rfl (fun o => by unfold pf; by_cases e : o = 4098 <;> simp [e]) (fun _ => ⟨rfl, fun _ => rfl⟩) h.lt h.kt
  have P1 := Lib.hid (P0.setOrder 0 0 (by omega) (by omega) (power s) rfl rfl rfl rfl (fun _ => ⟨rfl, fun e => absurd rfl e⟩))
  have K1 := Lib.hid ((((Keeps.refl F w).set (b := b) (o := 4098) (.inl hbF) (.bool false)).set (b := b) (o := 4100) (.inl hbF) (.int .i64 ((0 : Nat) : Int))).set (b := b) (o := 4101) (.inl hbF) (.int .u64 ((0 : Nat) : Int)))
  have e : ((0 : Nat) : Int) = 0 := rfl
  rw [e] at P1 K1
  have HF := Lib.hid hF
  clear h hF P0 e
  go_enter Tryz.func25, Tryz.ntmps25
  go_wp2
  go_end0
  exact ⟨rfl, Goes.plate P1.out hbF (fun k hk => .inl (HF.out k (.inr hk))) K1.out⟩
end Go.Proofs.YtacdbfaoeioflaaGreatDoor
