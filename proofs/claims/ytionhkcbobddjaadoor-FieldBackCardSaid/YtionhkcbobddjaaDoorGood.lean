/-
  The list of calls that went well, in memory of its own, beside two writers: plain lemmas for FieldBack.
-/
import Derived.Test.YtionhkcbobddjaaDoorOpen
namespace Go.Proofs.YtionhkcbobddjaaDoor
open Go.RowKit Go.Extern.Stop Go.Stop Go.Extern Go.PlainAid Go.Lib

/-- A call: its kind, number, width, text. -/
abbrev Stp := Int × Int × Int × ByteArray
def encS (x : Stp) : List Int := if x.1 = 0 then leb x.2.1 x.2.2.1.toNat else leb (x.2.2.2.size : Int) 2 ++ nums x.2.2.2
def bytesOf (gs : List Stp) : List Int := gs.flatMap encS
def cells4 (x : Stp) : List Value := [.int .i64 x.1, .int .i64 x.2.1, .int .i64 x.2.2.1, .string x.2.2.2]
def goodCells (gs : List Stp) : List Value := gs.flatMap cells4
def ValidS (x : Stp) : Prop := (x.1 = 0 ∧ Fits x.2.1 x.2.2.1) ∨ (x.1 = 1 ∧ x.2.2.2.size ≤ 1024)

theorem bytesOf_snoc (gs : List Stp) (x : Stp) : bytesOf (gs ++ [x]) = bytesOf gs ++ encS x := by simp [bytesOf]
theorem goodCells_snoc (gs : List Stp) (x : Stp) : goodCells (gs ++ [x]) = goodCells gs ++ cells4 x := by simp [goodCells]
theorem goodCells_length (gs : List Stp) : (goodCells gs).length = gs.length * 4 := by
  induction gs with
  | nil => rfl
  | cons x gs ih => simp only [goodCells, List.flatMap_cons, List.length_append, List.length_cons] at ih ⊢; simp only [cells4, List.length_cons, List.length_nil]; omega
theorem goodCells_get (gs : List Stp) : ∀ (j : Nat) (x : Stp) (i : Nat) (u : Value), gs[j]? = some x → (cells4 x)[i]? = some u → (goodCells gs)[j * 4 + i]? = some u := by
  induction gs with
  | nil => intro j x i u h; simp at h
  | cons y gs ih =>
    intro j x i u hj hu
    have hi : i < 4 := by
      have := (List.getElem?_eq_some_iff.1 hu).1
      simpa [cells4] using this
    cases j with
    | zero =>
      simp only [List.getElem?_cons_zero, Option.some.injEq] at hj
      subst hj
      show (cells4 y ++ goodCells gs)[0 * 4 + i]? = some u
      rw [List.getElem?_append_left (by simp [cells4]; omega)]
      simpa using hu
    | succ j =>
      have := ih j x i u (by simpa using hj) hu
      show (cells4 y ++ goodCells gs)[(j + 1) * 4 + i]? = some u
      rw [List.getElem?_append_right (by simp [cells4]; omega)]
      have e : (j + 1) * 4 + i - (cells4 y).length = j * 4 + i := by simp [cells4]; omega
      rw [e]; exact this

/-- The list gs lies in block gg. -/
def Gd (w : World) (B gg c : Nat) (gs : List Stp) : Prop := w.ownsRow B 31 4 (.slice (some ⟨gg, 0, none⟩) gs.length c) gs.length (goodCells gs)
theorem Gd.lt {w : World} {B gg c : Nat} {gs : List Stp} (h : Gd w B gg c gs) : B ≤ gg ∧ gg < w.heap.size := World.ownsRow.lt h gg rfl
theorem Gd.keep {w w' : World} {B gg c : Nat} {gs : List Stp} (h : Gd w B gg c gs) (hb : w'.heap[gg]? = w.heap[gg]?) : Gd w' B gg c gs := by
  obtain ⟨h1, h2⟩ := h
  refine ⟨h1, ?_⟩
  rcases h2 with ⟨h, _⟩ | ⟨g, cap, cur, hv, hg, hh, r⟩
  · cases h
  · injection hv with hv1 hv2 hv3
    injection hv1 with hv1
    injection hv1 with hv1
    subst hv1
    exact .inr ⟨gg, cap, cur, by rw [hv3], hg, hb.trans hh, r⟩
theorem Gd.cell {w : World} {B gg c : Nat} {gs : List Stp} (h : Gd w B gg c gs) {j i : Nat} {x : Stp} {u : Value} (hj : gs[j]? = some x) (hu : (cells4 x)[i]? = some u) : w.cell? ⟨gg, j * 4 + i, none⟩ = some u := by
  have := World.ownsRow.cells h (g := gg) rfl (j * 4 + i) u (goodCells_get gs j x i u hj hu)
  have e : (⟨gg, 0, none⟩ : Addr).add (j * 4 + i) = ⟨gg, j * 4 + i, none⟩ := by rw [Go.WideShapes.add_plain]; simp
  rw [e] at this; exact this

/-- Two writers, the list of what went well, each in blocks of its own. -/
def St (w : World) (B1 B2 : Nat) (r1 r2 : Option Nat) (gg c : Nat) (bs1 bs2 : List Int) (gs : List Stp) : Prop :=
  Two w B1 r1 bs1 B2 r2 bs2 ∧ Gd w (B2 + 1) gg c gs ∧ r1 ≠ some gg ∧ r2 ≠ some gg ∧ B1 < B2
/-- A block O that is none of theirs, with a call in it. -/
def Oc (w : World) (O : Nat) (x : Stp) (B1 B2 : Nat) (r1 r2 : Option Nat) (gg : Nat) : Prop :=
  (O < w.heap.size ∧ O ≠ B1 ∧ O ≠ B2 ∧ r1 ≠ some O ∧ r2 ≠ some O ∧ gg ≠ O) ∧ w.cell? ⟨O, 0, none⟩ = some (.int .i64 x.1) ∧ w.cell? ⟨O, 1, none⟩ = some (.int .i64 x.2.1) ∧ w.cell? ⟨O, 2, none⟩ = some (.int .i64 x.2.2.1) ∧ w.cell? ⟨O, 3, none⟩ = some (.string x.2.2.2)

theorem St.below {w w' : World} {B1 B2 gg c : Nat} {r1 r2 : Option Nat} {bs1 bs2 : List Int} {gs : List Stp} (h : St w B1 B2 r1 r2 gg c bs1 bs2 gs) (hb : Below w.heap.size w w') : St w' B1 B2 r1 r2 gg c bs1 bs2 gs := by
  obtain ⟨h1, h2, h3⟩ := h
  exact ⟨h1.below hb, h2.keep (hb.block gg h2.lt.2), h3⟩
theorem Oc.keep {w w' : World} {O : Nat} {x : Stp} {B1 B2 gg gg' : Nat} {r1 r2 r1' r2' : Option Nat} (h : Oc w O x B1 B2 r1 r2 gg) (hb : w'.heap[O]? = w.heap[O]?) (hz : w.heap.size ≤ w'.heap.size) (h1 : r1' ≠ some O) (h2 : r2' ≠ some O) (h3 : gg' ≠ O) : Oc w' O x B1 B2 r1' r2' gg' := by
  obtain ⟨⟨a1, a2, a3, _, _, _⟩, c0, c1, c2, c3⟩ := h
  exact ⟨⟨by omega, a2, a3, h1, h2, h3⟩, by rw [World.cell?_of_block (w := w) (a := ⟨O, 0, none⟩) hb]; exact c0, by rw [World.cell?_of_block (w := w) (a := ⟨O, 1, none⟩) hb]; exact c1, by rw [World.cell?_of_block (w := w) (a := ⟨O, 2, none⟩) hb]; exact c2, by rw [World.cell?_of_block (w := w) (a := ⟨O, 3, none⟩) hb]; exact c3⟩
theorem Oc.below {w w' : World} {O : Nat} {x : Stp} {B1 B2 gg : Nat} {r1 r2 : Option Nat} (h : Oc w O x B1 B2 r1 r2 gg) (hb : Below w.heap.size w w') : Oc w' O x B1 B2 r1 r2 gg :=
  h.keep (hb.block O h.1.1) hb.size h.1.2.2.2.1 h.1.2.2.2.2.1 h.1.2.2.2.2.2
theorem RowOk.ne {r r' : Option Nat} {w : World} {O : Nat} (h : RowOk r r' w) (hr : r ≠ some O) (hO : O < w.heap.size) : r' ≠ some O := by
  rcases h with rfl | ⟨g, rfl, hg⟩
  · exact hr
  · intro e; injection e with e; omega

/-- The first writer writes. -/
theorem St.w1 {w w' : World} {B1 B2 gg c O : Nat} {x : Stp} {r1 r1' r2 : Option Nat} {bs1 bs1' bs2 : List Int} {gs : List Stp} (h : St w B1 B2 r1 r2 gg c bs1 bs2 gs) (ho : Oc w O x B1 B2 r1 r2 gg) (hw : Wrt w' B1 r1' bs1') (hr : RowOk r1 r1' w) (hf : Fr B1 r1 w w') :
    St w' B1 B2 r1' r2 gg c bs1' bs2 gs ∧ Oc w' O x B1 B2 r1' r2 gg := by
  obtain ⟨h1, h2, h3, h4, h5⟩ := h
  have hg := h2.lt
  exact ⟨⟨h1.step hw hr hf, h2.keep (hf.block gg hg.2 (by omega) (Ne.symm h3)), hr.ne h3 hg.2, h4, h5⟩,
    ho.keep (hf.block O ho.1.1 ho.1.2.1 (Ne.symm ho.1.2.2.2.1)) hf.size (hr.ne ho.1.2.2.2.1 ho.1.1) ho.1.2.2.2.2.1 ho.1.2.2.2.2.2⟩
/-- The second writer writes. -/
theorem St.w2 {w w' : World} {B1 B2 gg c O : Nat} {x : Stp} {r1 r2 r2' : Option Nat} {bs1 bs2 bs2' : List Int} {gs : List Stp} (h : St w B1 B2 r1 r2 gg c bs1 bs2 gs) (ho : Oc w O x B1 B2 r1 r2 gg) (hw : Wrt w' B2 r2' bs2') (hr : RowOk r2 r2' w) (hf : Fr B2 r2 w w') :
    St w' B1 B2 r1 r2' gg c bs1 bs2' gs ∧ Oc w' O x B1 B2 r1 r2' gg := by
  obtain ⟨h1, h2, h3, h4, h5⟩ := h
  have hg := h2.lt
  exact ⟨⟨(h1.swap.step hw hr hf).swap, h2.keep (hf.block gg hg.2 (by omega) (Ne.symm h4)), h3, hr.ne h4 hg.2, h5⟩,
    ho.keep (hf.block O ho.1.1 ho.1.2.2.1 (Ne.symm ho.1.2.2.2.2.1)) hf.size ho.1.2.2.2.1 (hr.ne ho.1.2.2.2.2.1 ho.1.1) ho.1.2.2.2.2.2⟩
theorem Wrt.keepB {w w' : World} {b : Nat} {row : Option Nat} {bs : List Int} (h : Wrt w b row bs) (hz : w.heap.size ≤ w'.heap.size) (ho : w'.os = w.os) (ht : w'.tape = w.tape) (hp : w'.output = w.output) {c : Nat} (hb : ∀ k, k < w.heap.size → k ≠ c → w'.heap[k]? = w.heap[k]?) (h1 : b ≠ c) (h2 : row ≠ some c) : Wrt w' b row bs :=
  h.fr (c := c) (rc := none) ⟨ho, ht, hp, hz, fun k hk hkc _ => hb k hk hkc⟩ h1 (by simp) (fun g hg => ⟨fun e => h2 (by rw [hg, e]), by simp⟩)
/-- A call is appended to the list. -/
theorem St.app {w w' : World} {o : Obj} {B1 B2 gg c g' c' O : Nat} {x y : Stp} {r1 r2 : Option Nat} {bs1 bs2 : List Int} {gs : List Stp} (h : St w B1 B2 r1 r2 gg c bs1 bs2 gs) (ho : Oc w O y B1 B2 r1 r2 gg)
    (hown : w'.ownsRow (B2 + 1) 31 4 (.slice (some ⟨g', 0, none⟩) (gs.length + 1) c') (gs.length + 1) (goodCells gs ++ cells4 x)) (hg : (w.alloc o).grownBy w' (some gg)) (hat : some gg = some g' ∨ g' = w.heap.size + 1) :
    St w' B1 B2 r1 r2 g' c' bs1 bs2 (gs ++ [x]) ∧ Oc w' O y B1 B2 r1 r2 g' ∧ Below (B1 + 1) w w' := by
  obtain ⟨⟨t1, t2, t3, t4, t5, t6⟩, h2, h3, h4, h5⟩ := h
  have hgl := h2.lt
  have hz : w.heap.size + 1 ≤ w'.heap.size := by have := hg.size; simpa using this
  have hblk : ∀ k, k < w.heap.size → k ≠ gg → w'.heap[k]? = w.heap[k]? := fun k hk hne => by
    rw [hg.block k (by simp; omega) (fun e => hne (by injection e))]
    exact Below.heap_alloc w o k hk
  have l1 := t1.lt
  have l2 := t2.lt
  have w1' := t1.keepB (by omega) hg.os hg.tape hg.output hblk (by omega) h3
  have w2' := t2.keepB (by omega) hg.os hg.tape hg.output hblk (by omega) h4
  have hne : ∀ r b rs, Wrt w b r rs → r ≠ some gg → r ≠ some g' := fun r b rs hw hr => by
    rcases hat with e | e
    · injection e with e; rw [← e]; exact hr
    · intro e'; have := (hw.row_lt e').2; omega
  refine ⟨⟨⟨w1', w2', t3, t4, t5, t6⟩, ?_, hne r1 B1 bs1 t1 h3, hne r2 B2 bs2 t2 h4, h5⟩, ?_, ⟨hg.os, hg.tape, hg.output, by omega, fun k hk => hblk k (by omega) (by omega)⟩⟩
  · unfold Gd; rw [goodCells_snoc, List.length_append]; exact hown
  · refine ho.keep (hblk O ho.1.1 (fun e => ho.1.2.2.2.2.2 e.symm)) (by omega) ho.1.2.2.2.1 ho.1.2.2.2.2.1 ?_
    rcases hat with e | e
    · injection e with e; rw [← e]; exact ho.1.2.2.2.2.2
    · have := ho.1.1; omega

/-- A reader beside them is moved. -/
theorem St.reader {w w' : World} {B1 B2 gg c RB : Nat} {r1 r2 : Option Nat} {bs1 bs2 : List Int} {gs : List Stp} (h : St w B1 B2 r1 r2 gg c bs1 bs2 gs) (hf : Fr RB none w w') (h1 : B1 ≠ RB) (h2 : B2 ≠ RB) (h3 : gg ≠ RB) (h4 : r1 ≠ some RB) (h5 : r2 ≠ some RB) : St w' B1 B2 r1 r2 gg c bs1 bs2 gs := by
  obtain ⟨⟨t1, t2, t3⟩, g, e⟩ := h
  exact ⟨⟨t1.fr hf h1 (by simp) (fun g hg => ⟨fun e => h4 (by rw [hg, e]), by simp⟩), t2.fr hf h2 (by simp) (fun g hg => ⟨fun e => h5 (by rw [hg, e]), by simp⟩), t3⟩, g.keep (hf.block gg g.lt.2 h3 (by simp)), e⟩
theorem byt_enc (x : Stp) : Byt (encS x) := by
  unfold encS
  split
  · exact byt_leb _ _
  · exact (byt_leb _ _).app (byt_nums _)
theorem byt_bytesOf (gs : List Stp) : Byt (bytesOf gs) := by
  intro y hy
  obtain ⟨x, _, hx⟩ := List.mem_flatMap.1 hy
  exact byt_enc x y hx
theorem bytesOf_split (gs : List Stp) (j : Nat) (x : Stp) (h : gs[j]? = some x) : bytesOf gs = bytesOf (gs.take j) ++ encS x ++ bytesOf (gs.drop (j + 1)) := by
  obtain ⟨hj, hx⟩ := List.getElem?_eq_some_iff.1 h
  have e : gs = gs.take j ++ [x] ++ gs.drop (j + 1) := by
    rw [← hx, List.append_assoc]
    show gs = gs.take j ++ (gs[j] :: gs.drop (j + 1))
    rw [← List.drop_eq_getElem_cons hj, List.take_append_drop]
  have h2 : bytesOf (gs.take j ++ [x] ++ gs.drop (j + 1)) = bytesOf (gs.take j) ++ encS x ++ bytesOf (gs.drop (j + 1)) := by
    simp [bytesOf, List.flatMap_append]
  rw [← h2, ← e]
theorem bytesOf_take_succ (gs : List Stp) (j : Nat) (x : Stp) (h : gs[j]? = some x) : bytesOf (gs.take (j + 1)) = bytesOf (gs.take j) ++ encS x := by
  obtain ⟨hj, hx⟩ := List.getElem?_eq_some_iff.1 h
  rw [List.take_succ_eq_append_getElem hj, hx, bytesOf_snoc]
theorem Wrt.slice {w : World} {b : Nat} {row : Option Nat} {bs : List Int} (h : Wrt w b row bs) : ∃ A c, w.cell? ⟨b, 0, none⟩ = some (.slice A bs.length c) := by
  obtain ⟨s, hs, _, ho, _⟩ := h
  rcases owned_form ho with ⟨rfl, _, h0⟩ | ⟨g, cap, rfl, _⟩
  · exact ⟨none, 0, by rw [h0]; exact hs⟩
  · exact ⟨_, _, hs⟩
end Go.Proofs.YtionhkcbobddjaaDoor
