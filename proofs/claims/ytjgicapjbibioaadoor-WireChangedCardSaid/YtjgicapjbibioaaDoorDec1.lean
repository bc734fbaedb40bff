/-
  The steps of Decode (package wire), by contracts: a number, a text, the end and Check, as functions of the bytes.
-/
import Derived.Test.YtjgicapjbibioaaDoorEnc
namespace Go.Proofs.YtjgicapjbibioaaDoor
open Go.RowKit Go.Lib Go.PlainAid

/-- Where the number at place i begins. -/
def pos : Nat → Nat
  | 0 => 0
  | 1 => 1
  | 2 => 2
  | 3 => 3
  | 4 => 11
  | 5 => 19
  | 6 => 21
  | _ => 23
theorem pos_succ (i : Nat) (h : i < 7) : pos (i + 1) = pos i + (wid i).toNat := by
  match i, h with
  | 0, _ => rfl
  | 1, _ => rfl
  | 2, _ => rfl
  | 3, _ => rfl
  | 4, _ => rfl
  | 5, _ => rfl
  | 6, _ => rfl
theorem wid_width (i : Nat) : Width (wid i) := by
  match i with
  | 0 => exact .inl rfl
  | 1 => exact .inl rfl
  | 2 => exact .inl rfl
  | 3 => exact .inr (.inr (.inr rfl))
  | 4 => exact .inr (.inr (.inr rfl))
  | _ + 5 => exact .inr (.inl rfl)
theorem wid_pos (i : Nat) : 0 < wid i := by
  have := wid_width i; unfold Width at this; omega
theorem lev_nonneg (s : ByteArray) : ∀ k, 0 ≤ lev s k
  | 0 => by simp [lev]
  | k + 1 => by
    simp only [lev]
    exact Int.add_nonneg (lev_nonneg s k) (Int.mul_nonneg (bt_nonneg s k) (Int.pow_nonneg (by decide)))
/-- The number at place i. -/
def numV (t : ByteArray) (i : Nat) : Int := lev (t.extract (pos i) t.size) (wid i).toNat
def numE (t : ByteArray) (i : Nat) : List Int := if t.size < pos (i + 1) then [10] else if 9223372036854775807 < numV t i then [11] else []
def tL (t : ByteArray) : Int := lev (t.extract 23 t.size) 2
def textE (t : ByteArray) : List Int := if t.size < 25 then [10, 10] else if 1024 < tL t then [11] else if (t.size : Int) < 25 + tL t then [10] else []
def textV (t : ByteArray) : ByteArray := t.extract 25 (25 + (tL t).toNat)
def endE (t : ByteArray) : List Int := if (t.size : Int) = 25 + tL t then [] else [11]

theorem cells_at {w : World} {b : Nat} {cs : Array Value} {t : TypeId} {fr : Nat × Nat} (h : w.heap[b]? = some (.cells cs t fr)) (i : Nat) : w.cell? ⟨b, i, none⟩ = cs[i]? := by
  unfold World.cell?; simp only [h]; rfl
/-- The message m is all that block b has. -/
def MB (w : World) (b : Nat) (m : M) : Prop := w.heap[b]? = some (.cells m.cells 23 (0, 0))
theorem MB.cell {w : World} {b : Nat} {m : M} (h : MB w b m) (i : Nat) : w.cell? ⟨b, i, none⟩ = m.cells[i]? := cells_at h i
theorem MB.mat {w : World} {b : Nat} {m : M} (h : MB w b m) : Mat w b m := by
  refine ⟨fun i hi => ?_, h.cell 7⟩
  rw [h.cell i]
  match i, hi with
  | 0, _ => rfl
  | 1, _ => rfl
  | 2, _ => rfl
  | 3, _ => rfl
  | 4, _ => rfl
  | 5, _ => rfl
  | 6, _ => rfl
theorem MB.lt {w : World} {b : Nat} {m : M} (h : MB w b m) : b < w.heap.size := h.mat.lt
theorem MB.free {w : World} {b : Nat} {m : M} (h : MB w b m) (i : Nat) : w.frozen? ⟨b, i, none⟩ = false := by
  unfold World.frozen?; simp only [show w.heap[b]? = _ from h]; simp
theorem MB.fresh (w : World) (m : M) : MB (w.alloc (.cells m.cells 23)) w.heap.size m := heap_alloc_new w _
theorem MB.fr {w w' : World} {b c : Nat} {row : Option Nat} {m : M} (h : MB w b m) (hf : Fr c row w w') (h1 : b ≠ c) (h2 : some b ≠ row) : MB w' b m := by
  unfold MB; rw [hf.block b h.lt h1 h2]; exact h
theorem MB.below {w w' : World} {b : Nat} {m : M} (h : MB w b m) (hb : Below w.heap.size w w') : MB w' b m := by
  unfold MB; rw [hb.block b h.lt]; exact h
/-- One number of a message is another one. -/
def M.set (m : M) : Nat → Int → M
  | 0, v => { m with kind := v }
  | 1, v => { m with src := v }
  | 2, v => { m with dst := v }
  | 3, v => { m with epoch := v }
  | 4, v => { m with seq := v }
  | 5, v => { m with off := v }
  | _, v => { m with len := v }
theorem heap_setCell {w : World} {b : Nat} {cs : Array Value} {t : TypeId} {fr : Nat × Nat} (h : w.heap[b]? = some (.cells cs t fr)) (i : Nat) (v : Value) : (w.setCell ⟨b, i, none⟩ v).heap[b]? = some (.cells (cs.setIfInBounds i v) t fr) := by
  unfold World.setCell
  simp [Array.getElem?_modify, h]
theorem MB.set {w : World} {b : Nat} {m : M} (h : MB w b m) (i : Nat) (hi : i < 7) (v : Int) : MB (w.setCell ⟨b, i, none⟩ (.int .i64 v)) b (m.set i v) := by
  have := heap_setCell h i (.int .i64 v)
  unfold MB
  rw [this]
  match i, hi with
  | 0, _ => rfl
  | 1, _ => rfl
  | 2, _ => rfl
  | 3, _ => rfl
  | 4, _ => rfl
  | 5, _ => rfl
  | 6, _ => rfl
theorem MB.data {w : World} {b : Nat} {m : M} (h : MB w b m) (d : ByteArray) : MB (w.setCell ⟨b, 7, none⟩ (.string d)) b { m with data := d } := by
  have := heap_setCell h 7 (.string d)
  unfold MB
  rw [this]; rfl
/-- No error lies in a message's block. -/
theorem MB.noErr {w : World} {b : Nat} {m : M} (h : MB w b m) {o : Nat} {u : Value} {es : List Int} (hu : w.cell? ⟨b, o, none⟩ = some u) (hc : Chained w u es) : False := by
  rw [h.cell o] at hu
  have hk : (∃ n, u = .int .i64 n) ∨ ∃ d, u = .string d := by
    match o, hu with
    | 0, hu => exact .inl ⟨_, (Option.some.inj hu).symm⟩
    | 1, hu => exact .inl ⟨_, (Option.some.inj hu).symm⟩
    | 2, hu => exact .inl ⟨_, (Option.some.inj hu).symm⟩
    | 3, hu => exact .inl ⟨_, (Option.some.inj hu).symm⟩
    | 4, hu => exact .inl ⟨_, (Option.some.inj hu).symm⟩
    | 5, hu => exact .inl ⟨_, (Option.some.inj hu).symm⟩
    | 6, hu => exact .inl ⟨_, (Option.some.inj hu).symm⟩
    | 7, hu => exact .inr ⟨_, (Option.some.inj hu).symm⟩
    | _ + 8, hu => simp at hu
  cases es with
  | nil =>
    obtain rfl : u = .nilIface := hc
    rcases hk with ⟨_, h⟩ | ⟨_, h⟩ <;> cases h
  | cons e es =>
    obtain ⟨b', o', u', rfl, _⟩ := hc
    rcases hk with ⟨_, h⟩ | ⟨_, h⟩ <;> cases h
/-- A message's block is written: errors stay. -/
theorem Chained.setMsg {w : World} {b : Nat} {m : M} (h : MB w b m) (i : Nat) (x : Value) : ∀ {es : List Int} {v : Value}, Chained w v es → Chained (w.setCell ⟨b, i, none⟩ x) v es
  | [], _, hc => hc
  | _ :: _, _, ⟨b', o, u, hv, he, hu, hr⟩ => by
    have hne : b' ≠ b := fun e => by subst e; exact h.noErr hu hr
    refine ⟨b', o, u, hv, ?_, ?_, hr.setMsg h i x⟩
    · rw [World.cell?_setCell_other _ _ _ _ (by intro e; injection e with e; exact hne e.symm)]; exact he
    · rw [World.cell?_setCell_other _ _ _ _ (by intro e; injection e with e; exact hne e.symm)]; exact hu
/-- Only the message's block and the reader's have turned. -/
theorem Fr.setMsg {w w1 : World} {b R i : Nat} {x : Value} (h : Fr R none w w1) : Fr b (some R) w (w1.setCell ⟨b, i, none⟩ x) :=
  ⟨h.os, h.tape, h.output, by simp [World.setCell]; exact h.size, fun k hk h1 h2 => by
    rw [Below.heap_setCell _ _ _ _ (by simpa using h1)]
    exact h.block k hk (fun e => h2 (by rw [e])) (by simp)⟩
theorem Rdr.setMsg {w : World} {b R i a : Nat} {s : ByteArray} {x : Value} (h : Rdr w R s a) (hne : b ≠ R) : Rdr (w.setCell ⟨b, i, none⟩ x) R s a := by
  obtain ⟨h0, h1, h2⟩ := h
  exact ⟨by rw [World.cell?_setCell_other _ _ _ _ (by intro e; injection e with e; exact hne e)]; exact h0, by rw [World.cell?_setCell_other _ _ _ _ (by intro e; injection e with e; exact hne e)]; exact h1, by rw [World.frozen?_setCell]; exact h2⟩
theorem Fr.ofBelow {b : Nat} {row : Option Nat} {w w' : World} (h : Below w.heap.size w w') : Fr b row w w' := ⟨h.os, h.tape, h.output, h.size, fun k hk _ _ => h.block k hk⟩

/-- The reader's Num at place i. -/
theorem rnum_i (R i : Nat) (t : ByteArray) (w : World) (hi : i < 7) (hR : Rdr w R t (pos i)) (ha : pos i ≤ t.size) (hs : t.size ≤ 1000000000) :
    Calls Tryd.prog 53 #[.pointer (some ⟨R, 0, none⟩), .int .i64 (wid i)] w fun e w' => ∃ n v, e = .returned (.tuple #[.int .i64 n, v]) ∧ Chained w' v (numE t i) ∧ (numE t i = [] → n = numV t i ∧ Rdr w' R t (pos (i + 1))) ∧ Fr R none w w' := by
  have hp := pos_succ i hi
  have hw0 := wid_pos i
  unfold numE
  by_cases h1 : t.size < pos (i + 1)
  · rw [if_pos h1]
    refine (rnum_short R (pos i) t (wid i) w hR ha hs (wid_width i) (by omega)).mono ?_
    rintro e w' ⟨v, rfl, hc, hb⟩
    exact ⟨0, v, rfl, hc, fun h => (by cases h), Fr.ofBelow hb⟩
  · rw [if_neg h1]
    by_cases h2 : 9223372036854775807 < numV t i
    · rw [if_pos h2]
      refine (rnum_long R (pos i) t (wid i) w hR ha hs (wid_width i) (by omega) h2).mono ?_
      rintro e w' ⟨v, rfl, hc, hb⟩
      exact ⟨0, v, rfl, hc, fun h => (by cases h), Fr.ofBelow hb⟩
    · rw [if_neg h2]
      refine (rnum_ok R (pos i) t (wid i) w hR ha hs (wid_width i) (by omega) (by show numV t i ≤ _; omega) (lev_nonneg _ _)).mono ?_
      rintro e w' ⟨rfl, hr, hf⟩
      exact ⟨_, _, rfl, rfl, fun _ => ⟨rfl, by rw [hp]; exact hr⟩, hf⟩
end Go.Proofs.YtjgicapjbibioaaDoor
