/-
  A message that is all that a block has: stored whole.

  What is read at a place of a text, by both readers; which block has turned.

  A version and data as bytes, as plain data: what is refused, what is written, what is read; and what was written is read.
-/
import Derived.Test.YtmmpknfkncgjpaaGreatDoorM18
import Derived.Test.YtmmpknfkncgjpaaGreatDoorM12
import Derived.Laws.Tables
import Derived.Laws.CopyOwn
import Derived.Test.YtmmpknfkncgjpaaGreatDoorM15
namespace Go.Proofs.YtmmpknfkncgjpaaGreatDoor
open Go.RowKit

theorem cells_at {w : World} {b : Nat} {cs : Array Value} {t : TypeId} {fr : Nat × Nat} (h : w.heap[b]? = some (.cells cs t fr)) (i : Nat) : w.cell? ⟨b, i, none⟩ = cs[i]? := by
  unfold World.cell?; simp only [h]; rfl
/-- The message m is all that block b has. -/
def MB (w : World) (b : Nat) (m : M) : Prop := w.heap[b]? = some (.cells m.cells 31 (0, 0))
theorem MB.cell {w : World} {b : Nat} {m : M} (h : MB w b m) (i : Nat) : w.cell? ⟨b, i, none⟩ = m.cells[i]? := cells_at h i
theorem MB.mat {w : World} {b : Nat} {m : M} (h : MB w b m) : Mat w b m := by
  refine ⟨fun i hi => ?_, h.cell 7⟩
  rw [h.cell i]
  match i, hi with
  | 0, _ => rfl
  | 1, _ => rfl
  | 2, _ => rfl
  | 3, _ => rfl
  | 4, _ => rfl
  | 5, _ => rfl
  | 6, _ => rfl
theorem MB.lt {w : World} {b : Nat} {m : M} (h : MB w b m) : b < w.heap.size := h.mat.lt
theorem MB.free {w : World} {b : Nat} {m : M} (h : MB w b m) (i : Nat) : w.frozen? ⟨b, i, none⟩ = false := by
  unfold World.frozen?; simp only [show w.heap[b]? = _ from h]; simp
theorem MB.fresh (w : World) (m : M) : MB (w.alloc (.cells m.cells 31)) w.heap.size m := heap_alloc_new w _
theorem MB.fr {w w' : World} {b c : Nat} {row : Option Nat} {m : M} (h : MB w b m) (hf : Fr c row w w') (h1 : b ≠ c) (h2 : some b ≠ row) : MB w' b m := by
  unfold MB; rw [hf.block b h.lt h1 h2]; exact h
theorem MB.below {w w' : World} {b : Nat} {m : M} (h : MB w b m) (hb : Below w.heap.size w w') : MB w' b m := by
  unfold MB; rw [hb.block b h.lt]; exact h
/-- One number of a message is another one. -/
def M.set (m : M) : Nat → Int → M
  | 0, v => { m with kind := v }
  | 1, v => { m with src := v }
  | 2, v => { m with dst := v }
  | 3, v => { m with epoch := v }
  | 4, v => { m with seq := v }
  | 5, v => { m with off := v }
  | _, v => { m with len := v }
theorem heap_setCell {w : World} {b : Nat} {cs : Array Value} {t : TypeId} {fr : Nat × Nat} (h : w.heap[b]? = some (.cells cs t fr)) (i : Nat) (v : Value) : (w.setCell ⟨b, i, none⟩ v).heap[b]? = some (.cells (cs.setIfInBounds i v) t fr) := by
  unfold World.setCell
  simp [Array.getElem?_modify, h]
theorem MB.set {w : World} {b : Nat} {m : M} (h : MB w b m) (i : Nat) (hi : i < 7) (v : Int) : MB (w.setCell ⟨b, i, none⟩ (.int .i64 v)) b (m.set i v) := by
  have := heap_setCell h i (.int .i64 v)
  unfold MB
  rw [this]
  match i, hi with
  | 0, _ => rfl
  | 1, _ => rfl
  | 2, _ => rfl
  | 3, _ => rfl
  | 4, _ => rfl
  | 5, _ => rfl
  | 6, _ => rfl
theorem MB.data {w : World} {b : Nat} {m : M} (h : MB w b m) (d : ByteArray) : MB (w.setCell ⟨b, 7, none⟩ (.string d)) b { m with data := d } := by
  have := heap_setCell h 7 (.string d)
  unfold MB
  rw [this]; rfl
theorem MB.eight {w : World} {D : Nat} {m0 : M} (h : MB w D m0) (m : M) : MB ((((((((w.setCell ⟨D, 0, none⟩ (.int .i64 m.kind)).setCell ⟨D, 1, none⟩ (.int .i64 m.src)).setCell ⟨D, 2, none⟩ (.int .i64 m.dst)).setCell ⟨D, 3, none⟩ (.int .i64 m.epoch)).setCell ⟨D, 4, none⟩ (.int .i64 m.seq)).setCell ⟨D, 5, none⟩ (.int .i64 m.off)).setCell ⟨D, 6, none⟩ (.int .i64 m.len)).setCell ⟨D, 7, none⟩ (.string m.data)) D m := by
  have h1 : MB _ D ⟨m.kind, m0.src, m0.dst, m0.epoch, m0.seq, m0.off, m0.len, m0.data⟩ := h.set 0 (by omega) m.kind
  have h2 : MB _ D ⟨m.kind, m.src, m0.dst, m0.epoch, m0.seq, m0.off, m0.len, m0.data⟩ := h1.set 1 (by omega) m.src
  have h3 : MB _ D ⟨m.kind, m.src, m.dst, m0.epoch, m0.seq, m0.off, m0.len, m0.data⟩ := h2.set 2 (by omega) m.dst
  have h4 : MB _ D ⟨m.kind, m.src, m.dst, m.epoch, m0.seq, m0.off, m0.len, m0.data⟩ := h3.set 3 (by omega) m.epoch
  have h5 : MB _ D ⟨m.kind, m.src, m.dst, m.epoch, m.seq, m0.off, m0.len, m0.data⟩ := h4.set 4 (by omega) m.seq
  have h6 : MB _ D ⟨m.kind, m.src, m.dst, m.epoch, m.seq, m.off, m0.len, m0.data⟩ := h5.set 5 (by omega) m.off
  have h7 : MB _ D ⟨m.kind, m.src, m.dst, m.epoch, m.seq, m.off, m.len, m0.data⟩ := h6.set 6 (by omega) m.len
  exact h7.data m.data
theorem below_eight {B : Nat} {w0 w : World} {D : Nat} (h : Below B w0 w) (hD : B ≤ D) (m : M) : Below B w0 ((((((((w.setCell ⟨D, 0, none⟩ (.int .i64 m.kind)).setCell ⟨D, 1, none⟩ (.int .i64 m.src)).setCell ⟨D, 2, none⟩ (.int .i64 m.dst)).setCell ⟨D, 3, none⟩ (.int .i64 m.epoch)).setCell ⟨D, 4, none⟩ (.int .i64 m.seq)).setCell ⟨D, 5, none⟩ (.int .i64 m.off)).setCell ⟨D, 6, none⟩ (.int .i64 m.len)).setCell ⟨D, 7, none⟩ (.string m.data)) :=
  (((((((h.setCell hD _).setCell hD _).setCell hD _).setCell hD _).setCell hD _).setCell hD _).setCell hD _).setCell hD _

/-- A message is stored whole: only its block turns. -/
theorem wpList_store_msg {ops : Array Oper} {rest : List Oper} {o : Oper} {a : Act} {w : World} {Q : Exit → Act → World → Prop} (hgd : o.guard = none) (x y : Operand) (ho : o.op = .store 31 x y)
    (D : Nat) (m m0 : M) (hx : a.eval x = .pointer (some ⟨D, 0, none⟩)) (hy : a.eval y = m.val) (hD : MB w D m0)
    (h : ∀ wF, MB wF D m → Fr D none w wF → wF.heap.size = w.heap.size → wpList Tryz.prog ops Q rest (a.put o.dst undef) wF) : wpList Tryz.prog ops Q (o :: rest) a w :=
  wpList_store_row hgd 31 x y ho D m.cells hx hy 31 m0.cells hD (by kernel_rfl) rfl (by simp [M.cells, Value.oneCell'])
    (h _ (setRow_heap w D m0.cells m.cells _ _ hD) (by
      have hb := below_setRow (Below.refl 0 w) (Nat.zero_le D) m.cells
      exact ⟨hb.os, hb.tape, hb.output, hb.size, fun k _ hk _ => setRow_other w D k _ hk⟩) (by simp))
theorem Fr.eight {w0 w : World} {D c : Nat} {row : Option Nat} (h : Fr c row w0 w) (hD : w0.heap.size ≤ D) (m : M) : Fr c row w0 ((((((((w.setCell ⟨D, 0, none⟩ (.int .i64 m.kind)).setCell ⟨D, 1, none⟩ (.int .i64 m.src)).setCell ⟨D, 2, none⟩ (.int .i64 m.dst)).setCell ⟨D, 3, none⟩ (.int .i64 m.epoch)).setCell ⟨D, 4, none⟩ (.int .i64 m.seq)).setCell ⟨D, 5, none⟩ (.int .i64 m.off)).setCell ⟨D, 6, none⟩ (.int .i64 m.len)).setCell ⟨D, 7, none⟩ (.string m.data)) := by
  have hb := below_eight (Below.refl D w) (Nat.le_refl D) m
  exact ⟨hb.os.trans h.os, hb.tape.trans h.tape, hb.output.trans h.output, Nat.le_trans h.size hb.size, fun k hk h1 h2 => (hb.block k (by omega)).trans (h.block k hk h1 h2)⟩
end Go.Proofs.YtmmpknfkncgjpaaGreatDoor

namespace Go.Proofs.YtmmpknfkncgjpaaGreatDoor
open Go.RowKit Go.Lib Go.PlainAid

/-- Block b alone has turned, and new ones. -/
abbrev Fb (b : Nat) (w w' : World) : Prop := Fr b none w w'
theorem Fb.cell {b c o : Nat} {w w' : World} {v : Value} (h : Fb b w w') (hc : w.cell? ⟨c, o, none⟩ = some v) (hne : c ≠ b) : w'.cell? ⟨c, o, none⟩ = some v := by
  rw [World.cell?_of_block (w := w) (a := ⟨c, o, none⟩) (h.block c (World.block_lt_of_cell? w _ hc) hne (by simp))]; exact hc
theorem Fb.same {b : Nat} {w : World} : Fb b w w := Fr.refl b none w
theorem Fb.of_below {b : Nat} {w w' : World} (h : Below w.heap.size w w') : Fb b w w' := Fr.of_below h
theorem Fb.trans {b : Nat} {w w1 w2 : World} (h : Fb b w w1) (h' : Fb b w1 w2) : Fb b w w2 := Fr.trans h h'
theorem Fb.then_below {b : Nat} {w w1 w2 : World} (h : Fb b w w1) (h' : Below w1.heap.size w1 w2) : Fb b w w2 := Fb.trans h (Fb.of_below h')
theorem Fb.after_below {b : Nat} {w w1 w2 : World} (h : Below w.heap.size w w1) (h' : Fb b w1 w2) : Fb b w w2 := Fb.trans (Fb.of_below h) h'
theorem Fb.set {b : Nat} {w w1 : World} (h : Fb b w w1) (o : Nat) (v : Value) : Fb b w (w1.setCell ⟨b, o, none⟩ v) :=
  ⟨h.os, h.tape, h.output, by simp [World.setCell]; exact h.size, fun k hk hkb hkr => by
    rw [Below.heap_setCell _ _ _ _ (by simpa using hkb)]; exact h.block k hk hkb hkr⟩
theorem Fb.drew {b : Nat} {w w1 : World} (h : Fb b w w1) : Fb b w w1.drew := ⟨h.os, h.tape, h.output, h.size, h.block⟩
theorem Fb.below {b B : Nat} {w w' : World} (h : Fb b w w') (hB : B ≤ b) (hw : B ≤ w.heap.size) : Below B w w' :=
  ⟨h.os, h.tape, h.output, h.size, fun k hk => h.block k (by omega) (by omega) (by simp)⟩
theorem below_fb {b B : Nat} {w0 w w' : World} (h0 : Below B w0 w) (h : Fb b w w') (hB : B ≤ b) (hw : B ≤ w.heap.size) : Below B w0 w' := h0.trans (h.below hB hw)

/-- The number of k bytes at place a. -/
def numAt (t : ByteArray) (a k : Nat) : Option Int :=
  if t.size < a + k then none else if 9223372036854775807 < lev (t.extract a t.size) k then none else some (lev (t.extract a t.size) k)
/-- The text at place a. -/
def textAt (t : ByteArray) (a : Nat) : Option ByteArray :=
  if t.size < a + 2 then none else if 1024 < lev (t.extract a t.size) 2 then none
  else if t.size < a + 2 + (lev (t.extract a t.size) 2).toNat then none else some (t.extract (a + 2) (a + 2 + (lev (t.extract a t.size) 2).toNat))
theorem lev_nonneg' (s : ByteArray) : ∀ k, 0 ≤ lev s k
  | 0 => by simp [lev]
  | k + 1 => by
    simp only [lev]
    exact Int.add_nonneg (lev_nonneg' s k) (Int.mul_nonneg (bt_nonneg s k) (Int.pow_nonneg (by decide)))
theorem numAt_some {t : ByteArray} {a k : Nat} {n : Int} (h : numAt t a k = some n) : a + k ≤ t.size ∧ n = lev (t.extract a t.size) k ∧ 0 ≤ n ∧ n ≤ 9223372036854775807 := by
  unfold numAt at h
  split at h
  · cases h
  · split at h
    · cases h
    · injection h with h
      have := lev_nonneg' (t.extract a t.size) k
      exact ⟨by omega, h.symm, by omega, by omega⟩
theorem bt7_of_lev (s : ByteArray) (a : Nat) (h : a + 8 ≤ s.size) : (lev (s.extract a s.size) 8 ≤ 9223372036854775807 ↔ bt s (a + 7) ≤ 127) := by
  have e := bt_extract s a 7 (by omega)
  generalize s.extract a s.size = T at e ⊢
  have b0 := bt_nonneg T 0; have b1 := bt_nonneg T 1; have b2 := bt_nonneg T 2; have b3 := bt_nonneg T 3; have b4 := bt_nonneg T 4; have b5 := bt_nonneg T 5; have b6 := bt_nonneg T 6; have b7 := bt_nonneg T 7
  have c0 := bt_le T 0; have c1 := bt_le T 1; have c2 := bt_le T 2; have c3 := bt_le T 3; have c4 := bt_le T 4; have c5 := bt_le T 5; have c6 := bt_le T 6; have c7 := bt_le T 7
  rw [← e]
  simp only [lev]
  omega
theorem lev_small (s : ByteArray) (k : Int) (hk : Width k) (h : k ≠ 8) : lev s k.toNat ≤ 9223372036854775807 := by
  have c0 := bt_le s 0; have c1 := bt_le s 1; have c2 := bt_le s 2; have c3 := bt_le s 3
  rcases hk with rfl | rfl | rfl | rfl
  · simp only [Int.reduceToNat, lev]; omega
  · simp only [Int.reduceToNat, lev]; omega
  · simp only [Int.reduceToNat, lev]; omega
  · exact absurd rfl h
theorem rrnum_ok (b a : Nat) (s : ByteArray) (k : Int) (w : World) (hR : Rdr w b s a) (hs : s.size ≤ 1000000000) (hk : Width k) (hl : k ≤ ((s.size - a : Nat) : Int)) (hv : lev (s.extract a s.size) k.toNat ≤ 9223372036854775807) :
    Calls Tryz.prog 53 #[.pointer (some ⟨b, 0, none⟩), .int .i64 k] w fun e w' => e = .returned (.tuple #[.int .i64 (lev (s.extract a s.size) k.toNat), .agg #[.slice none 0 0, .int .i64 0]]) ∧ Rdr w' b s (a + k.toNat) ∧ Fr b none w w' := by
  by_cases h8 : k = 8
  · subst h8
    have hl' : a + 8 ≤ s.size := by omega
    have e := hvf_lev s a 8 hl'
    have hv' : lev (s.extract a s.size) 8 ≤ 9223372036854775807 := hv
    have := rrnum_ok8 b a s w hR hs hl' ((bt7_of_lev s a hl').1 hv') (by rw [e]; exact hv')
    rw [e] at this
    exact this
  · have hw := hk
    unfold Width at hw
    obtain ⟨m, rfl⟩ := Int.eq_ofNat_of_zero_le (show 0 ≤ k by omega)
    have hl' : a + m ≤ s.size := by omega
    have e := hvf_lev s a m hl'
    have := rrnum_okv b a s m w hR hs hl' hk (by omega) (by rw [e]; exact hv)
    rw [e] at this
    exact this
theorem rrnum_long' (b a : Nat) (s : ByteArray) (k : Int) (w : World) (hR : Rdr w b s a) (hs : s.size ≤ 1000000000) (hk : Width k) (hl : k ≤ ((s.size - a : Nat) : Int)) (hv : 9223372036854775807 < lev (s.extract a s.size) k.toNat) :
    Calls Tryz.prog 53 #[.pointer (some ⟨b, 0, none⟩), .int .i64 k] w fun e w' => ∃ A at_, e = .returned (.tuple #[.int .i64 0, .agg #[.slice A 1 1, .int .i64 at_]]) ∧ RF w' A 1 1 [11] ∧ Below w.heap.size w w' := by
  by_cases h8 : k = 8
  · subst h8
    have hl' : a + 8 ≤ s.size := by omega
    refine rrnum_long b a s w hR hs hl' ?_
    have h2 := bt7_of_lev s a hl'
    have hv' : 9223372036854775807 < lev (s.extract a s.size) 8 := hv
    omega
  · have := lev_small (s.extract a s.size) k hk h8; omega

theorem width28 {k : Nat} (hk : k = 2 ∨ k = 8) : Width (k : Int) := by unfold Width; omega
theorem chained_iface {w : World} {v : Value} {e : Int} {es : List Int} (h : Chained w v (e :: es)) : ∃ ty x, v = .iface ty x := by
  obtain ⟨b, o, u, rfl, -⟩ := h; exact ⟨_, _, rfl⟩

theorem rnumAt (b a : Nat) (t : ByteArray) (k : Nat) (hk : k = 2 ∨ k = 8) (w : World) (hR : Rdr w b t a) (ha : a ≤ t.size) (hs : t.size ≤ 1000000000) :
    Calls Tryz.prog 51 #[.pointer (some ⟨b, 0, none⟩), .int .i64 (k : Int)] w fun e w' => ∃ n v a', e = .returned (.tuple #[.int .i64 n, v]) ∧ Rdr w' b t a' ∧ a' ≤ t.size ∧ Fb b w w' ∧
      ((numAt t a k = some n ∧ v = .nilIface ∧ a' = a + k) ∨ (numAt t a k = none ∧ n = 0 ∧ a' = a ∧ ∃ ty x, v = .iface ty x)) := by
  unfold numAt
  by_cases h1 : t.size < a + k
  · rw [if_pos h1]
    refine (rnum_short b a t k w hR ha hs (width28 hk) (by omega)).mono ?_
    rintro e w' ⟨v, rfl, hc, hb⟩
    exact ⟨0, v, a, rfl, hR.below hb, ha, Fb.of_below hb, .inr ⟨rfl, rfl, rfl, chained_iface hc⟩⟩
  · rw [if_neg h1]
    by_cases h2 : 9223372036854775807 < lev (t.extract a t.size) k
    · rw [if_pos h2]
      refine (rnum_long b a t k w hR ha hs (width28 hk) (by omega) (by rw [Int.toNat_natCast]; exact h2)).mono ?_
      rintro e w' ⟨v, rfl, hc, hb⟩
      exact ⟨0, v, a, rfl, hR.below hb, ha, Fb.of_below hb, .inr ⟨rfl, rfl, rfl, chained_iface hc⟩⟩
    · rw [if_neg h2]
      refine (rnum_ok b a t k w hR ha hs (width28 hk) (by omega) (by rw [Int.toNat_natCast]; omega) (lev_nonneg' _ _)).mono ?_
      rintro e w' ⟨rfl, hr, hf⟩
      rw [Int.toNat_natCast] at hr ⊢
      exact ⟨_, _, a + k, rfl, hr, by omega, hf, .inl ⟨rfl, rfl, rfl⟩⟩
theorem rtextAt (b a : Nat) (t : ByteArray) (w : World) (hg : ErrType w) (hR : Rdr w b t a) (ha : a ≤ t.size) (hs : t.size ≤ 1000000000) :
    Calls Tryz.prog 52 #[.pointer (some ⟨b, 0, none⟩)] w fun e w' => ∃ x v a', e = .returned (.tuple #[.string x, v]) ∧ Rdr w' b t a' ∧ a' ≤ t.size ∧ Fb b w w' ∧
      ((textAt t a = some x ∧ v = .nilIface ∧ a' = a + 2 + x.size) ∨ (textAt t a = none ∧ x = ⟨#[]⟩ ∧ a' = a ∧ ∃ ty x, v = .iface ty x)) := by
  have hn := lev2_bounds (t.extract a t.size)
  unfold textAt
  by_cases h1 : t.size < a + 2
  · rw [if_pos h1]
    refine (rtext_few b a t w hg hR ha hs (by omega)).mono ?_
    rintro e w' ⟨v, rfl, hc, hb⟩
    exact ⟨_, v, a, rfl, hR.below hb, ha, Fb.of_below hb, .inr ⟨rfl, rfl, rfl, chained_iface hc⟩⟩
  · rw [if_neg h1]
    by_cases h2 : 1024 < lev (t.extract a t.size) 2
    · rw [if_pos h2]
      refine (rtext_long b a t w hR ha hs (by omega) h2).mono ?_
      rintro e w' ⟨v, rfl, hc, hb⟩
      exact ⟨_, v, a, rfl, hR.below hb, ha, Fb.of_below hb, .inr ⟨rfl, rfl, rfl, chained_iface hc⟩⟩
    · rw [if_neg h2]
      by_cases h3 : t.size < a + 2 + (lev (t.extract a t.size) 2).toNat
      · rw [if_pos h3]
        refine (rtext_short b a t w hR ha hs (by omega) (by omega) (by omega)).mono ?_
        rintro e w' ⟨v, rfl, hc, hb⟩
        exact ⟨_, v, a, rfl, hR.below hb, ha, Fb.of_below hb, .inr ⟨rfl, rfl, rfl, chained_iface hc⟩⟩
      · rw [if_neg h3]
        refine (rtext_ok b a (lev (t.extract a t.size) 2).toNat t w hR ha hs (by omega) (by omega) (by omega) (by omega)).mono ?_
        rintro e w' ⟨rfl, hr, hf⟩
        have hsz : (t.extract (a + 2) (a + 2 + (lev (t.extract a t.size) 2).toNat)).size = (lev (t.extract a t.size) 2).toNat := by rw [ByteArray.size_extract]; omega
        exact ⟨_, _, _, rfl, hr, by omega, hf, .inl ⟨rfl, rfl, by rw [hsz]⟩⟩
theorem rrnumAt (b a : Nat) (t : ByteArray) (k : Nat) (hk : k = 2 ∨ k = 8) (w : World) (hR : Rdr w b t a) (ha : a ≤ t.size) (hs : t.size ≤ 1000000000) :
    Calls Tryz.prog 53 #[.pointer (some ⟨b, 0, none⟩), .int .i64 (k : Int)] w fun e w' => ∃ n A m c at_ es a', e = .returned (.tuple #[.int .i64 n, .agg #[.slice A m c, .int .i64 at_]]) ∧ RF w' A m c es ∧ m ≤ 1000 ∧ Rdr w' b t a' ∧ a' ≤ t.size ∧ Fb b w w' ∧
      ((numAt t a k = some n ∧ es.headD 0 = 0 ∧ a' = a + k) ∨ (numAt t a k = none ∧ n = 0 ∧ a' = a ∧ es.headD 0 ≠ 0)) := by
  unfold numAt
  by_cases h1 : t.size < a + k
  · rw [if_pos h1]
    refine (rrnum_short b a t k w hR ha hs (width28 hk) (by omega)).mono ?_
    rintro e w' ⟨A, at_, rfl, hc, hb⟩
    exact ⟨0, A, 1, 1, at_, [10], a, rfl, hc, by omega, hR.below hb, ha, Fb.of_below hb, .inr ⟨rfl, rfl, rfl, by decide⟩⟩
  · rw [if_neg h1]
    by_cases h2 : 9223372036854775807 < lev (t.extract a t.size) k
    · rw [if_pos h2]
      refine (rrnum_long' b a t k w hR hs (width28 hk) (by omega) (by rw [Int.toNat_natCast]; exact h2)).mono ?_
      rintro e w' ⟨A, at_, rfl, hc, hb⟩
      exact ⟨0, A, 1, 1, at_, [11], a, rfl, hc, by omega, hR.below hb, ha, Fb.of_below hb, .inr ⟨rfl, rfl, rfl, by decide⟩⟩
    · rw [if_neg h2]
      refine (rrnum_ok b a t k w hR hs (width28 hk) (by omega) (by rw [Int.toNat_natCast]; omega)).mono ?_
      rintro e w' ⟨rfl, hr, hf⟩
      rw [Int.toNat_natCast] at hr ⊢
      exact ⟨_, none, 0, 0, 0, [], a + k, rfl, RF.none_, by omega, hr, by omega, hf, .inl ⟨rfl, rfl, rfl⟩⟩
theorem rrtextAt (b a : Nat) (t : ByteArray) (w : World) (hR : Rdr w b t a) (ha : a ≤ t.size) (hs : t.size ≤ 1000000000) :
    Calls Tryz.prog 54 #[.pointer (some ⟨b, 0, none⟩)] w fun e w' => ∃ x A m c at_ es a', e = .returned (.tuple #[.string x, .agg #[.slice A m c, .int .i64 at_]]) ∧ RF w' A m c es ∧ m ≤ 1000 ∧ Rdr w' b t a' ∧ a' ≤ t.size ∧ Fb b w w' ∧
      ((textAt t a = some x ∧ es.headD 0 = 0 ∧ a' = a + 2 + x.size) ∨ (textAt t a = none ∧ x = ⟨#[]⟩ ∧ a' = a ∧ es.headD 0 ≠ 0)) := by
  have hn := lev2_bounds (t.extract a t.size)
  unfold textAt
  by_cases h1 : t.size < a + 2
  · rw [if_pos h1]
    refine (rrtext_few b a t w hR hs ha h1).mono ?_
    rintro e w' ⟨A, at_, rfl, hc, hr, hb⟩
    exact ⟨_, A, 2, 2, at_, [10, 10], a, rfl, hc, by omega, hr, ha, Fb.of_below hb, .inr ⟨rfl, rfl, rfl, by decide⟩⟩
  · rw [if_neg h1]
    by_cases h2 : 1024 < lev (t.extract a t.size) 2
    · rw [if_pos h2]
      refine (rrtext_long b a (lev (t.extract a t.size) 2).toNat t w hR hs (by omega) (by omega) (by omega) (by omega)).mono ?_
      rintro e w' ⟨A, at_, rfl, hc, hr, hf⟩
      exact ⟨_, A, 1, 1, at_, [11], a, rfl, hc, by omega, hr, ha, hf, .inr ⟨rfl, rfl, rfl, by decide⟩⟩
    · rw [if_neg h2]
      by_cases h3 : t.size < a + 2 + (lev (t.extract a t.size) 2).toNat
      · rw [if_pos h3]
        refine (rrtext_short b a (lev (t.extract a t.size) 2).toNat t w hR hs (by omega) (by omega) (by omega) (by omega)).mono ?_
        rintro e w' ⟨A, at_, rfl, hc, hr, hf⟩
        exact ⟨_, A, 1, 1, at_, [10], a, rfl, hc, by omega, hr, ha, hf, .inr ⟨rfl, rfl, rfl, by decide⟩⟩
      · rw [if_neg h3]
        refine (rrtext_ok b a (lev (t.extract a t.size) 2).toNat t w hR hs (by omega) (by omega) (by omega) (by omega)).mono ?_
        rintro e w' ⟨rfl, hr, hf⟩
        have hsz : (t.extract (a + 2) (a + 2 + (lev (t.extract a t.size) 2).toNat)).size = (lev (t.extract a t.size) 2).toNat := by rw [ByteArray.size_extract]; omega
        exact ⟨_, none, 0, 0, 0, [], _, rfl, RF.none_, by omega, hr, by omega, hf, .inl ⟨rfl, rfl, by rw [hsz]⟩⟩
theorem rrendAt (b a : Nat) (t : ByteArray) (w : World) (hR : Rdr w b t a) (ha : a ≤ t.size) :
    Calls Tryz.prog 56 #[.pointer (some ⟨b, 0, none⟩)] w fun e w' => ∃ A m c at_ es, e = .returned (.agg #[.slice A m c, .int .i64 at_]) ∧ RF w' A m c es ∧ m ≤ 1000 ∧ Below w.heap.size w w' ∧ ((a = t.size ∧ es.headD 0 = 0) ∨ (a ≠ t.size ∧ es.headD 0 ≠ 0)) := by
  by_cases h1 : a = t.size
  · subst h1
    refine (rrend_ok b t w hR).mono ?_
    rintro e w' ⟨rfl, hb⟩
    exact ⟨none, 0, 0, 0, [], rfl, RF.none_, by omega, hb, .inl ⟨rfl, rfl⟩⟩
  · refine (rrend_bad b a t w hR (by omega)).mono ?_
    rintro e w' ⟨A, at_, rfl, hc, hb⟩
    exact ⟨A, 1, 1, at_, [11], rfl, hc, by omega, hb, .inr ⟨h1, by decide⟩⟩
end Go.Proofs.YtmmpknfkncgjpaaGreatDoor

namespace Go.Proofs.YtmmpknfkncgjpaaGreatDoor
open Go.RowKit

def valE (ver : Int) (d : ByteArray) : Int := if 0 ≤ ver ∧ ver ≤ 1099511627776 then (if d.size ≤ 16 then 0 else 11) else 1
def valB (ver : Int) (d : ByteArray) : ByteArray := strOfNums (leb ver 8 ++ leb (d.size : Int) 2 ++ nums d)
/-- What Value tells. -/
def valO (ver : Int) (d : ByteArray) : ByteArray × Int := if valE ver d = 0 then (valB ver d, 0) else (⟨#[]⟩, valE ver d)
/-- The version and data that s is, if it is one. -/
def parOf (s : ByteArray) : Option (Int × ByteArray) :=
  match numAt s 0 8, textAt s 8 with
  | some n, some d => if 10 + d.size = s.size ∧ n ≤ 1099511627776 ∧ d.size ≤ 16 then some (n, d) else none
  | _, _ => none
/-- What Parse tells. -/
def parO (s : ByteArray) : (Int × ByteArray) × Int := match parOf s with
  | some x => (x, 0)
  | none => ((0, ⟨#[]⟩), 30)
theorem parO_some {s : ByteArray} {x : Int × ByteArray} (h : parOf s = some x) : parO s = (x, 0) := by unfold parO; rw [h]
theorem parO_none {s : ByteArray} (h : parOf s = none) : parO s = ((0, ⟨#[]⟩), 30) := by unfold parO; rw [h]
theorem valE_zero {ver : Int} {d : ByteArray} (h : valE ver d = 0) : 0 ≤ ver ∧ ver ≤ 1099511627776 ∧ d.size ≤ 16 := by
  unfold valE at h
  split at h
  · rename_i h1
    split at h
    · exact ⟨h1.1, h1.2, by assumption⟩
    · cases h
  · cases h
theorem valE_ok {ver : Int} {d : ByteArray} (h1 : 0 ≤ ver) (h2 : ver ≤ 1099511627776) (h3 : d.size ≤ 16) : valE ver d = 0 := by
  unfold valE; rw [if_pos ⟨h1, h2⟩, if_pos h3]
theorem valB_size (ver : Int) (d : ByteArray) : (valB ver d).size = 10 + d.size := by
  unfold valB
  rw [strOfNums_size, List.length_append, List.length_append, leb_len _ _ (by decide), leb_len _ _ (by decide), nums_length]
theorem parOf_val {ver : Int} {d : ByteArray} (h : valE ver d = 0) : parOf (valB ver d) = some (ver, d) := by
  obtain ⟨h1, h2, h3⟩ := valE_zero h
  have hf8 : Fits ver 8 := ⟨h1, .inr (.inr (.inr ⟨rfl, by omega⟩))⟩
  have hf2 : Fits (d.size : Int) 2 := ⟨by omega, .inr (.inl ⟨rfl, by omega⟩)⟩
  have hs := valB_size ver d
  have e8 : lev ((valB ver d).extract 0 (valB ver d).size) 8 = ver := by
    unfold valB
    rw [extract_rest, List.drop_zero, List.append_assoc]
    exact lev_leb ver 8 _ hf8 ((byt_leb _ _).app (byt_nums _))
  have e2 : lev ((valB ver d).extract 8 (valB ver d).size) 2 = (d.size : Int) := by
    unfold valB
    rw [extract_rest, List.append_assoc, List.drop_left' (leb_len _ _ (by decide))]
    exact lev_leb (d.size : Int) 2 _ hf2 (byt_nums _)
  have n8 : numAt (valB ver d) 0 8 = some ver := by
    unfold numAt
    rw [if_neg (by omega), e8, if_neg (by omega)]
  have t8 : textAt (valB ver d) 8 = some d := by
    unfold textAt
    rw [if_neg (by omega), e2, if_neg (by omega), if_neg (by omega)]
    refine congrArg some ?_
    have hl : (leb ver 8 ++ leb (d.size : Int) 2).length = 10 := by rw [List.length_append, leb_len _ _ (by decide), leb_len _ _ (by decide)]
    have e : (valB ver d).extract 10 (10 + d.size) = d := by
      unfold valB
      rw [extract_str, List.drop_left' hl, Nat.add_sub_cancel_left, List.take_of_length_le (by rw [nums_length]; omega), str_nums]
    have e3 : 8 + 2 + ((d.size : Int)).toNat = 10 + d.size := by omega
    rw [e3]
    exact e
  unfold parOf
  rw [n8, t8]
  show (if _ then _ else _) = _
  rw [if_pos ⟨hs.symm, h2, h3⟩]
theorem parOf_fits {s : ByteArray} {n : Int} {d : ByteArray} (h : parOf s = some (n, d)) : valE n d = 0 ∧ numAt s 0 8 = some n ∧ textAt s 8 = some d ∧ 10 + d.size = s.size := by
  unfold parOf at h
  split at h
  · rename_i n' d' h1 h2
    split at h
    · rename_i hc
      simp only [Option.some.injEq, Prod.mk.injEq] at h
      obtain ⟨rfl, rfl⟩ := h
      exact ⟨valE_ok (numAt_some h1).2.2.1 hc.2.1 hc.2.2, h1, h2, hc.1⟩
    · cases h
  · cases h
theorem parOf_empty : parOf ⟨#[]⟩ = none := by
  cases h : parOf ⟨#[]⟩ with
  | none => rfl
  | some x =>
    have h4 := (parOf_fits (n := x.1) (d := x.2) h).2.2.2
    have h5 : (ByteArray.mk #[]).size = 0 := rfl
    omega
end Go.Proofs.YtmmpknfkncgjpaaGreatDoor
