/-
  A step of the laws of layer 4, at the bag and at the document's own: does, by a contract.
-/
import Derived.Test.YthcoghgpdcnhlaaHelp
namespace Go.Proofs.Ythcoghgpdcnhlaa
open Go.RowKit

/-- A step. -/
structure Stp where
  k : Int
  i : Int
  m : M
@[reducible] def Stp.val (o : Stp) : Value := .agg #[.int .i64 o.k, .int .i64 o.i, .int .i64 o.m.kind, .int .i64 o.m.src, .int .i64 o.m.dst, .int .i64 o.m.epoch, .int .i64 o.m.seq, .int .i64 o.m.off, .int .i64 o.m.len, .string o.m.data]
@[reducible] def Stp.cells (o : Stp) : Array Value := #[.int .i64 o.k, .int .i64 o.i, .int .i64 o.m.kind, .int .i64 o.m.src, .int .i64 o.m.dst, .int .i64 o.m.epoch, .int .i64 o.m.seq, .int .i64 o.m.off, .int .i64 o.m.len, .string o.m.data]
/-- What a step leaves. -/
def cutL (l : List M) (i : Int) : List M := l.filter (fun m => m.dst != i && m.src != i)
def nextL (l : List M) (o : Stp) : List M :=
  if o.k = 0 then sendL l o.m else if o.k = 1 then tkL l o.i else if o.k = 2 then twL l o.i else if o.k = 3 then tkL l o.i else if o.k = 4 then ltL l o.i else if o.k = 5 then cutL l o.i else l

theorem RowOk.le {row row' : Option Nat} {w w0 : World} (h : RowOk row row' w0) (hz : w.heap.size ≤ w0.heap.size) : RowOk row row' w := by
  rcases h with h | h | ⟨g, h, hg⟩
  · exact .inl h
  · exact .inr (.inl h)
  · exact .inr (.inr ⟨g, h, by omega⟩)
theorem Fit.nil : Fit [] := ⟨fun m h => by simp at h, by simp⟩
theorem rest_mem {l : List M} {i : Nat} {m : M} (h : m ∈ rest l i) : m ∈ l := by
  unfold rest at h
  rcases List.mem_append.1 h with h | h
  · exact List.mem_of_mem_take h
  · exact List.mem_of_mem_drop h
theorem Fit.room {l : List M} (h : Fit l) {m : M} (hm : m.chk = 0) : Fit (roomL l m) := by
  unfold roomL
  split
  · exact h
  · exact ⟨fun x hx => by
      rcases List.mem_append.1 hx with hx | hx
      · exact h.all x hx
      · rw [List.mem_singleton.1 hx]; exact hm, by simp; omega⟩
theorem Fit.send {l : List M} (h : Fit l) (m : M) : Fit (sendL l m) := by
  unfold sendL
  split
  · rename_i hc; exact h.room hc
  · exact h
theorem Fit.take {l : List M} (h : Fit l) (i : Int) : Fit (tkL l i) := by
  refine ⟨fun m hm => ?_, Nat.le_trans (tkL_le l i) h.le⟩
  unfold tkL at hm
  split at hm
  · exact h.all m (rest_mem hm)
  · exact h.all m hm
theorem Fit.twice {l : List M} (h : Fit l) (i : Int) : Fit (twL l i) := by
  unfold twL
  split
  · rename_i hh; exact h.room (h.all _ (atP_mem hh))
  · exact h
theorem Fit.late {l : List M} (h : Fit l) (i : Int) : Fit (ltL l i) := by
  unfold ltL
  split
  · rename_i hh
    refine ⟨fun x hx => ?_, ?_⟩
    · rcases List.mem_append.1 hx with hx | hx
      · exact h.all x (rest_mem hx)
      · rw [List.mem_singleton.1 hx]; exact h.all _ (atP_mem hh)
    · have := h.le
      unfold has at hh
      rw [List.length_append, rest_length (by omega), List.length_singleton]; omega
  · exact h
theorem Fit.cut {l : List M} (h : Fit l) (i : Int) : Fit (cutL l i) :=
  ⟨fun m hm => h.all m ((List.mem_filter.1 hm).1), Nat.le_trans (List.length_filter_le _ _) h.le⟩
theorem Fit.next {l : List M} (h : Fit l) (o : Stp) : Fit (nextL l o) := by
  unfold nextL
  repeat' split
  · exact h.send _
  · exact h.take _
  · exact h.twice _
  · exact h.take _
  · exact h.late _
  · exact h.cut _
  · exact h

/-- From w to w' only two bags and new blocks have turned. -/
structure Fr2 (b1 : Nat) (r1 : Option Nat) (b2 : Nat) (r2 : Option Nat) (w w' : World) : Prop where
  os : w'.os = w.os
  tape : w'.tape = w.tape
  output : w'.output = w.output
  size : w.heap.size ≤ w'.heap.size
  block : ∀ k, k < w.heap.size → k ≠ b1 → some k ≠ r1 → k ≠ b2 → some k ≠ r2 → w'.heap[k]? = w.heap[k]?
theorem Fr2.of_below {b1 b2 : Nat} {r1 r2 : Option Nat} {w w' : World} (h : Below w.heap.size w w') : Fr2 b1 r1 b2 r2 w w' := ⟨h.os, h.tape, h.output, h.size, fun k hk _ _ _ _ => h.block k hk⟩
theorem Fr2.first {b1 b2 : Nat} {r1 r2 : Option Nat} {w w1 w' : World} (h : Fr2 b1 r1 b2 r2 w w1) (hf : Fr b1 r1 w1 w') : Fr2 b1 r1 b2 r2 w w' :=
  ⟨hf.os.trans h.os, hf.tape.trans h.tape, hf.output.trans h.output, Nat.le_trans h.size hf.size, fun k hk h1 h2 h3 h4 => (hf.block k (Nat.lt_of_lt_of_le hk h.size) h1 h2).trans (h.block k hk h1 h2 h3 h4)⟩
theorem Fr2.second {b1 b2 : Nat} {r1 r2 : Option Nat} {w w1 w' : World} (h : Fr2 b1 r1 b2 r2 w w1) (hf : Fr b2 r2 w1 w') : Fr2 b1 r1 b2 r2 w w' :=
  ⟨hf.os.trans h.os, hf.tape.trans h.tape, hf.output.trans h.output, Nat.le_trans h.size hf.size, fun k hk h1 h2 h3 h4 => (hf.block k (Nat.lt_of_lt_of_le hk h.size) h3 h4).trans (h.block k hk h1 h2 h3 h4)⟩
theorem Fr2.then_below {b1 b2 : Nat} {r1 r2 : Option Nat} {w w1 w' : World} (h : Fr2 b1 r1 b2 r2 w w1) (hf : Below w1.heap.size w1 w') : Fr2 b1 r1 b2 r2 w w' := h.first (Fr.of_below hf)
theorem Fr2.below {b1 b2 B : Nat} {r1 r2 : Option Nat} {l1 l2 : List M} {w w' : World} (h : Fr2 b1 r1 b2 r2 w w') (hT : Two w b1 r1 l1 b2 r2 l2) (h1 : B ≤ b1) (h2 : B ≤ b2) : Below B w w' :=
  ⟨h.os, h.tape, h.output, h.size, fun k hk => h.block k (by have := hT.1.lt; omega) (by omega) (fun e => by have := (hT.1.row_lt e.symm).1; omega) (by omega) (fun e => by have := (hT.2.1.row_lt e.symm).1; omega)⟩

/-- The step o is all that block c has. -/
def SB (w : World) (c : Nat) (o : Stp) : Prop := w.heap[c]? = some (.cells o.cells 37 (0, 0))
theorem SB.all {w : World} {c : Nat} {o : Stp} (h : SB w c o) : w.cell? ⟨c, 0, none⟩ = some (.int .i64 o.k) ∧ w.cell? ⟨c, 1, none⟩ = some (.int .i64 o.i) ∧ w.cell? ⟨c, 2, none⟩ = some (.int .i64 o.m.kind) ∧ w.cell? ⟨c, 3, none⟩ = some (.int .i64 o.m.src) ∧ w.cell? ⟨c, 4, none⟩ = some (.int .i64 o.m.dst) ∧ w.cell? ⟨c, 5, none⟩ = some (.int .i64 o.m.epoch) ∧ w.cell? ⟨c, 6, none⟩ = some (.int .i64 o.m.seq) ∧ w.cell? ⟨c, 7, none⟩ = some (.int .i64 o.m.off) ∧ w.cell? ⟨c, 8, none⟩ = some (.int .i64 o.m.len) ∧ w.cell? ⟨c, 9, none⟩ = some (.string o.m.data) :=
  ⟨cells_at h 0, cells_at h 1, cells_at h 2, cells_at h 3, cells_at h 4, cells_at h 5, cells_at h 6, cells_at h 7, cells_at h 8, cells_at h 9⟩
theorem SB.lt {w : World} {c : Nat} {o : Stp} (h : SB w c o) : c < w.heap.size := cell_lt3 h.all.1
theorem SB.fr {w w' : World} {b c : Nat} {row : Option Nat} {o : Stp} (h : SB w c o) (hf : Fr b row w w') (h1 : c ≠ b) (h2 : some c ≠ row) : SB w' c o := by
  unfold SB; rw [hf.block c h.lt h1 h2]; exact h
theorem SB.below {w w' : World} {c : Nat} {o : Stp} (h : SB w c o) (hb : Below w.heap.size w w') : SB w' c o := by
  unfold SB; rw [hb.block c h.lt]; exact h
theorem SB.fresh (w : World) (o : Stp) : SB (w.alloc (.cells o.cells 37)) w.heap.size o := heap_alloc_new w _
/-- What does answers, and leaves. -/
def DoesPost (b1 b2 : Nat) (r1 r2 : Option Nat) (k : List M) (w : World) (e : Ending) (w' : World) : Prop :=
  e = .returned (.bool true) ∧ ∃ r1' r2', Two w' b1 r1' k b2 r2' k ∧ Fr2 b1 r1 b2 r2 w w' ∧ RowOk r1 r1' w ∧ RowOk r2 r2' w

set_option maxRecDepth 100000 in
set_option maxHeartbeats 4000000 in
theorem does_0 (b1 b2 : Nat) (r1 r2 : Option Nat) (l : List M) (o : Stp) (w : World) (hT : Two w b1 r1 l b2 r2 l) (hF : Fit l) (hk : o.k = 0) :
    Calls Try.prog 12 #[.pointer (some ⟨b1, 0, none⟩), .pointer (some ⟨b2, 0, none⟩), o.val] w (DoesPost b1 b2 r1 r2 (nextL l o) w) := by
  obtain ⟨ok, i, m⟩ := o
  dsimp only at hk
  subst hk
  have hl := hF.le
  have hn : nextL l ⟨0, i, m⟩ = sendL l m := by simp [nextL]
  rw [hn]
  clear hn
  have hb0 : Below w.heap.size w (w.alloc (.cells (Stp.cells ⟨0, i, m⟩) 37)) := (Below.refl _ _).alloc (Nat.le_refl _) _
  have l1 := hT.1.lt
  have l2 := hT.2.1.lt
  have q1 : ∀ g, r1 = some g → g < w.heap.size := fun _ hg => (hT.1.row_lt hg).2
  have q2 : ∀ g, r2 = some g → g < w.heap.size := fun _ hg => (hT.2.1.row_lt hg).2
  have T0 := Lib.hid (hT.below hb0)
  have HB0 := Lib.hid hb0
  have S0 := Lib.hid (SB.fresh w ⟨0, i, m⟩)
  have HS1 := Lib.hid (fun W r (h : Bg W b1 r l) => send_any b1 r l m W h (by omega))
  have HS2 := Lib.hid (fun W r (h : Bg W b2 r l) => rsend_any b2 r l m W h (by omega))
  generalize sendE l m = x at HS1 HS2
  generalize sendL l m = kl at HS1 HS2 ⊢
  clear hT hF hb0
  obtain ⟨z0, z1, z2, z3, z4, z5, z6, z7, z8, z9⟩ := S0.out.all
  go_enter Try.func12, Try.ntmps12
  go_wp2_with fail
  generalize w.alloc (.cells (Stp.cells ⟨0, i, m⟩) 37) = w0 at T0 HB0 S0 z0 z1 z2 z3 z4 z5 z6 z7 z8 z9 ⊢
  have hbd : Below w0.heap.size w0 w0.drew := (Below.refl _ _).drew
  have Tz := Lib.hid (T0.out.below hbd)
  have Fz := Lib.hid (show Fr2 b1 r1 b2 r2 w w0.drew from Fr2.of_below HB0.out.drew)
  have Sz := Lib.hid (S0.out.below hbd)
  clear hbd T0 S0 z0 z1 z2 z3 z4 z5 z6 z7 z8 z9
  go_region_held3 (fun w' => w'.cell? ⟨w.heap.size, 2, none⟩ = some (.int .i64 m.kind) ∧ w'.cell? ⟨w.heap.size, 3, none⟩ = some (.int .i64 m.src) ∧ w'.cell? ⟨w.heap.size, 4, none⟩ = some (.int .i64 m.dst) ∧ w'.cell? ⟨w.heap.size, 5, none⟩ = some (.int .i64 m.epoch) ∧ w'.cell? ⟨w.heap.size, 6, none⟩ = some (.int .i64 m.seq) ∧ w'.cell? ⟨w.heap.size, 7, none⟩ = some (.int .i64 m.off) ∧ w'.cell? ⟨w.heap.size, 8, none⟩ = some (.int .i64 m.len) ∧ w'.cell? ⟨w.heap.size, 9, none⟩ = some (.string m.data))
    (first | exact Sz.out.all.2.2 | exact Sa.out.all.2.2 | exact Sb.out.all.2.2 | fail)
    (first
      | (go_at_call 18; refine (HS1.out _ _ Tz.out.1).mono ?_; rintro e wa ⟨rfl, ra, k1, k2, k3⟩; have Ta := Lib.hid (Tz.out.step k1 k2 k3); have Sa := Lib.hid (Sz.out.fr k3 (by omega) (fun e => by have := q1 _ e.symm; omega)); have Fa := Lib.hid (Fz.out.first k3); have Ra := Lib.hid (k2.after HB0.out.drew); clear k1 k2 k3)
      | (go_at_call 24; refine (HS2.out _ _ Ta.out.swap.1).mono ?_; rintro e wb ⟨rfl, rb, k1, k2, k3⟩; have Tb := Lib.hid (Ta.out.swap.step k1 k2 k3).swap; have Sb := Lib.hid (Sa.out.fr k3 (by omega) (fun e => by have := q2 _ e.symm; omega)); have Fb := Lib.hid (Fa.out.second k3); have Rb := Lib.hid (k2.le Fa.out.size); clear k1 k2 k3)
      | fail)
  go_wp2
  go_ret
  exact ⟨rfl, _, _, Tb.out, Fb.out, Ra.out, Rb.out⟩

set_option maxRecDepth 100000 in
set_option maxHeartbeats 4000000 in
theorem does_1 (b1 b2 : Nat) (r1 r2 : Option Nat) (l : List M) (o : Stp) (w : World) (hT : Two w b1 r1 l b2 r2 l) (hF : Fit l) (hk : o.k = 1) :
    Calls Try.prog 12 #[.pointer (some ⟨b1, 0, none⟩), .pointer (some ⟨b2, 0, none⟩), o.val] w (DoesPost b1 b2 r1 r2 (nextL l o) w) := by
  obtain ⟨ok, i, m⟩ := o
  dsimp only at hk
  subst hk
  have hl := hF.le
  have hn : nextL l ⟨1, i, m⟩ = tkL l i := by simp [nextL]
  rw [hn]
  clear hn
  have hb0 : Below w.heap.size w (w.alloc (.cells (Stp.cells ⟨1, i, m⟩) 37)) := (Below.refl _ _).alloc (Nat.le_refl _) _
  have l1 := hT.1.lt
  have l2 := hT.2.1.lt
  have q1 : ∀ g, r1 = some g → g < w.heap.size := fun _ hg => (hT.1.row_lt hg).2
  have q2 : ∀ g, r2 = some g → g < w.heap.size := fun _ hg => (hT.2.1.row_lt hg).2
  have T0 := Lib.hid (hT.below hb0)
  have HB0 := Lib.hid hb0
  have S0 := Lib.hid (SB.fresh w ⟨1, i, m⟩)
  have HS1 := Lib.hid (fun W r (h : Bg W b1 r l) => take_any b1 r l i W h (by omega))
  have HS2 := Lib.hid (fun W r (h : Bg W b2 r l) => rtake_any b2 r l i W h (by omega))
  generalize tkM l i = x at HS1 HS2
  generalize tkE l i = y at HS1 HS2
  generalize tkL l i = kl at HS1 HS2 ⊢
  clear hT hF hb0
  obtain ⟨z0, z1, -⟩ := S0.out.all
  go_enter Try.func12, Try.ntmps12
  go_wp2_with fail
  go_at_call 11
  refine (HS1.out _ _ T0.out.1).mono ?_
  rintro e wa ⟨rfl, ra, k1, k2, k3⟩
  generalize w.alloc (.cells (Stp.cells ⟨1, i, m⟩) 37) = w0 at T0 HB0 S0 z0 z1 k1 k2 k3 ⊢
  have hx : Below wa.heap.size wa (wa.alloc (.cells x.cells 31)) := (Below.refl _ _).alloc (Nat.le_refl _) _
  have Ta := Lib.hid ((T0.out.step k1 k2 k3).below hx)
  have Sa := Lib.hid ((S0.out.fr k3 (by omega) (fun e => by have := q1 _ e.symm; omega)).below hx)
  have Fa := Lib.hid (((Fr2.of_below (b1 := b1) (r1 := r1) (b2 := b2) (r2 := r2) HB0.out).first k3).then_below hx)
  have Ra := Lib.hid (k2.after HB0.out)
  have Xa := Lib.hid (Mat.fresh wa x 31)
  have hza : (wa.alloc (.cells x.cells 31)).heap.size = wa.heap.size + 1 := by simp
  have hwa := k3.size
  obtain ⟨-, y1, -⟩ := Sa.out.all
  clear hx k1 k2 k3 z0 z1
  go_wp2_with fail
  go_at_call 29
  refine (HS2.out _ _ Ta.out.swap.1).mono ?_
  rintro e wb ⟨rfl, rb, k1, k2, k3⟩
  generalize wa.alloc (.cells x.cells 31) = w1 at Ta Sa Fa Xa y1 hza k1 k2 k3 ⊢
  have hx : Below wb.heap.size wb (wb.alloc (.cells x.cells 31)) := (Below.refl _ _).alloc (Nat.le_refl _) _
  have Tb := Lib.hid ((Ta.out.swap.step k1 k2 k3).swap.below hx)
  have Fb := Lib.hid ((Fa.out.second k3).then_below hx)
  have Rb := Lib.hid (k2.le Fa.out.size)
  have hz0 := HB0.out.size
  have Xb := Lib.hid (Xa.out.fr k3 (by omega) (fun e => by have := q2 _ e.symm; omega))
  have hxb := Xb.out.lt
  obtain ⟨x0, x1, x2, x3, x4, x5, x6, x7⟩ := Xb.out.all
  have hq := msg_same x
  clear hx k1 k2 k3 y1
  go_wp2
  go_ret
  exact ⟨rfl, _, _, Tb.out, Fb.out, Ra.out, Rb.out⟩

set_option maxRecDepth 100000 in
set_option maxHeartbeats 4000000 in
theorem does_2 (b1 b2 : Nat) (r1 r2 : Option Nat) (l : List M) (o : Stp) (w : World) (hT : Two w b1 r1 l b2 r2 l) (hF : Fit l) (hk : o.k = 2) :
    Calls Try.prog 12 #[.pointer (some ⟨b1, 0, none⟩), .pointer (some ⟨b2, 0, none⟩), o.val] w (DoesPost b1 b2 r1 r2 (nextL l o) w) := by
  obtain ⟨ok, i, m⟩ := o
  dsimp only at hk
  subst hk
  have hl := hF.le
  have hn : nextL l ⟨2, i, m⟩ = twL l i := by simp [nextL]
  rw [hn]
  clear hn
  have hb0 : Below w.heap.size w (w.alloc (.cells (Stp.cells ⟨2, i, m⟩) 37)) := (Below.refl _ _).alloc (Nat.le_refl _) _
  have l1 := hT.1.lt
  have l2 := hT.2.1.lt
  have q1 : ∀ g, r1 = some g → g < w.heap.size := fun _ hg => (hT.1.row_lt hg).2
  have q2 : ∀ g, r2 = some g → g < w.heap.size := fun _ hg => (hT.2.1.row_lt hg).2
  have T0 := Lib.hid (hT.below hb0)
  have HB0 := Lib.hid hb0
  have S0 := Lib.hid (SB.fresh w ⟨2, i, m⟩)
  have HS1 := Lib.hid (fun W r (h : Bg W b1 r l) => twice_any b1 r l i W h (by omega))
  have HS2 := Lib.hid (fun W r (h : Bg W b2 r l) => rtwice_any b2 r l i W h hF)
  generalize twE l i = x at HS1 HS2
  generalize twL l i = kl at HS1 HS2 ⊢
  clear hT hF hb0
  obtain ⟨z0, z1, z2, z3, z4, z5, z6, z7, z8, z9⟩ := S0.out.all
  go_enter Try.func12, Try.ntmps12
  go_wp2_with fail
  generalize w.alloc (.cells (Stp.cells ⟨2, i, m⟩) 37) = w0 at T0 HB0 S0 z0 z1 z2 z3 z4 z5 z6 z7 z8 z9 ⊢
  have hbd : Below w0.heap.size w0 w0.drew := (Below.refl _ _).drew
  have Tz := Lib.hid (T0.out.below hbd)
  have Fz := Lib.hid (show Fr2 b1 r1 b2 r2 w w0.drew from Fr2.of_below HB0.out.drew)
  have Sz := Lib.hid (S0.out.below hbd)
  clear hbd T0 S0 z0 z1 z2 z3 z4 z5 z6 z7 z8 z9
  go_region_held3 (fun w' => w'.cell? ⟨w.heap.size, 1, none⟩ = some (.int .i64 i))
    (first | exact Sz.out.all.2.1 | exact Sa.out.all.2.1 | exact Sb.out.all.2.1 | fail)
    (first
      | (go_at_call 19; refine (HS1.out _ _ Tz.out.1).mono ?_; rintro e wa ⟨rfl, ra, k1, k2, k3⟩; have Ta := Lib.hid (Tz.out.step k1 k2 k3); have Sa := Lib.hid (Sz.out.fr k3 (by omega) (fun e => by have := q1 _ e.symm; omega)); have Fa := Lib.hid (Fz.out.first k3); have Ra := Lib.hid (k2.after HB0.out.drew); clear k1 k2 k3)
      | (go_at_call 25; refine (HS2.out _ _ Ta.out.swap.1).mono ?_; rintro e wb ⟨rfl, rb, k1, k2, k3⟩; have Tb := Lib.hid (Ta.out.swap.step k1 k2 k3).swap; have Sb := Lib.hid (Sa.out.fr k3 (by omega) (fun e => by have := q2 _ e.symm; omega)); have Fb := Lib.hid (Fa.out.second k3); have Rb := Lib.hid (k2.le Fa.out.size); clear k1 k2 k3)
      | fail)
  go_wp2
  go_ret
  exact ⟨rfl, _, _, Tb.out, Fb.out, Ra.out, Rb.out⟩

set_option maxRecDepth 100000 in
set_option maxHeartbeats 4000000 in
theorem does_3 (b1 b2 : Nat) (r1 r2 : Option Nat) (l : List M) (o : Stp) (w : World) (hT : Two w b1 r1 l b2 r2 l) (hF : Fit l) (hk : o.k = 3) :
    Calls Try.prog 12 #[.pointer (some ⟨b1, 0, none⟩), .pointer (some ⟨b2, 0, none⟩), o.val] w (DoesPost b1 b2 r1 r2 (nextL l o) w) := by
  obtain ⟨ok, i, m⟩ := o
  dsimp only at hk
  subst hk
  have hl := hF.le
  have hn : nextL l ⟨3, i, m⟩ = tkL l i := by simp [nextL]
  rw [hn]
  clear hn
  have hb0 : Below w.heap.size w (w.alloc (.cells (Stp.cells ⟨3, i, m⟩) 37)) := (Below.refl _ _).alloc (Nat.le_refl _) _
  have l1 := hT.1.lt
  have l2 := hT.2.1.lt
  have q1 : ∀ g, r1 = some g → g < w.heap.size := fun _ hg => (hT.1.row_lt hg).2
  have q2 : ∀ g, r2 = some g → g < w.heap.size := fun _ hg => (hT.2.1.row_lt hg).2
  have T0 := Lib.hid (hT.below hb0)
  have HB0 := Lib.hid hb0
  have S0 := Lib.hid (SB.fresh w ⟨3, i, m⟩)
  have HS1 := Lib.hid (fun W r (h : Bg W b1 r l) => drop_any b1 r l i W h (by omega))
  have HS2 := Lib.hid (fun W r (h : Bg W b2 r l) => rdrop_any b2 r l i W h (by omega))
  generalize tkE l i = x at HS1 HS2
  generalize tkL l i = kl at HS1 HS2 ⊢
  clear hT hF hb0
  obtain ⟨z0, z1, z2, z3, z4, z5, z6, z7, z8, z9⟩ := S0.out.all
  go_enter Try.func12, Try.ntmps12
  go_wp2_with fail
  generalize w.alloc (.cells (Stp.cells ⟨3, i, m⟩) 37) = w0 at T0 HB0 S0 z0 z1 z2 z3 z4 z5 z6 z7 z8 z9 ⊢
  have hbd : Below w0.heap.size w0 w0.drew := (Below.refl _ _).drew
  have Tz := Lib.hid (T0.out.below hbd)
  have Fz := Lib.hid (show Fr2 b1 r1 b2 r2 w w0.drew from Fr2.of_below HB0.out.drew)
  have Sz := Lib.hid (S0.out.below hbd)
  clear hbd T0 S0 z0 z1 z2 z3 z4 z5 z6 z7 z8 z9
  go_region_held3 (fun w' => w'.cell? ⟨w.heap.size, 1, none⟩ = some (.int .i64 i))
    (first | exact Sz.out.all.2.1 | exact Sa.out.all.2.1 | exact Sb.out.all.2.1 | fail)
    (first
      | (go_at_call 20; refine (HS1.out _ _ Tz.out.1).mono ?_; rintro e wa ⟨rfl, ra, k1, k2, k3⟩; have Ta := Lib.hid (Tz.out.step k1 k2 k3); have Sa := Lib.hid (Sz.out.fr k3 (by omega) (fun e => by have := q1 _ e.symm; omega)); have Fa := Lib.hid (Fz.out.first k3); have Ra := Lib.hid (k2.after HB0.out.drew); clear k1 k2 k3)
      | (go_at_call 30; refine (HS2.out _ _ Ta.out.swap.1).mono ?_; rintro e wb ⟨rfl, rb, k1, k2, k3⟩; have Tb := Lib.hid (Ta.out.swap.step k1 k2 k3).swap; have Sb := Lib.hid (Sa.out.fr k3 (by omega) (fun e => by have := q2 _ e.symm; omega)); have Fb := Lib.hid (Fa.out.second k3); have Rb := Lib.hid (k2.le Fa.out.size); clear k1 k2 k3)
      | fail)
  go_wp2
  go_ret
  exact ⟨rfl, _, _, Tb.out, Fb.out, Ra.out, Rb.out⟩

set_option maxRecDepth 100000 in
set_option maxHeartbeats 4000000 in
theorem does_4 (b1 b2 : Nat) (r1 r2 : Option Nat) (l : List M) (o : Stp) (w : World) (hT : Two w b1 r1 l b2 r2 l) (hF : Fit l) (hk : o.k = 4) :
    Calls Try.prog 12 #[.pointer (some ⟨b1, 0, none⟩), .pointer (some ⟨b2, 0, none⟩), o.val] w (DoesPost b1 b2 r1 r2 (nextL l o) w) := by
  obtain ⟨ok, i, m⟩ := o
  dsimp only at hk
  subst hk
  have hl := hF.le
  have hn : nextL l ⟨4, i, m⟩ = ltL l i := by simp [nextL]
  rw [hn]
  clear hn
  have hb0 : Below w.heap.size w (w.alloc (.cells (Stp.cells ⟨4, i, m⟩) 37)) := (Below.refl _ _).alloc (Nat.le_refl _) _
  have l1 := hT.1.lt
  have l2 := hT.2.1.lt
  have q1 : ∀ g, r1 = some g → g < w.heap.size := fun _ hg => (hT.1.row_lt hg).2
  have q2 : ∀ g, r2 = some g → g < w.heap.size := fun _ hg => (hT.2.1.row_lt hg).2
  have T0 := Lib.hid (hT.below hb0)
  have HB0 := Lib.hid hb0
  have S0 := Lib.hid (SB.fresh w ⟨4, i, m⟩)
  have HS1 := Lib.hid (fun W r (h : Bg W b1 r l) => late_any b1 r l i W h (by omega))
  have HS2 := Lib.hid (fun W r (h : Bg W b2 r l) => rlate_any b2 r l i W h hF)
  generalize tkE l i = x at HS1 HS2
  generalize ltL l i = kl at HS1 HS2 ⊢
  clear hT hF hb0
  obtain ⟨z0, z1, z2, z3, z4, z5, z6, z7, z8, z9⟩ := S0.out.all
  go_enter Try.func12, Try.ntmps12
  go_wp2_with fail
  generalize w.alloc (.cells (Stp.cells ⟨4, i, m⟩) 37) = w0 at T0 HB0 S0 z0 z1 z2 z3 z4 z5 z6 z7 z8 z9 ⊢
  have hbd : Below w0.heap.size w0 w0.drew := (Below.refl _ _).drew
  have Tz := Lib.hid (T0.out.below hbd)
  have Fz := Lib.hid (show Fr2 b1 r1 b2 r2 w w0.drew from Fr2.of_below HB0.out.drew)
  have Sz := Lib.hid (S0.out.below hbd)
  clear hbd T0 S0 z0 z1 z2 z3 z4 z5 z6 z7 z8 z9
  go_region_held3 (fun w' => w'.cell? ⟨w.heap.size, 1, none⟩ = some (.int .i64 i))
    (first | exact Sz.out.all.2.1 | exact Sa.out.all.2.1 | exact Sb.out.all.2.1 | fail)
    (first
      | (go_at_call 21; refine (HS1.out _ _ Tz.out.1).mono ?_; rintro e wa ⟨rfl, ra, k1, k2, k3⟩; have Ta := Lib.hid (Tz.out.step k1 k2 k3); have Sa := Lib.hid (Sz.out.fr k3 (by omega) (fun e => by have := q1 _ e.symm; omega)); have Fa := Lib.hid (Fz.out.first k3); have Ra := Lib.hid (k2.after HB0.out.drew); clear k1 k2 k3)
      | (go_at_call 31; refine (HS2.out _ _ Ta.out.swap.1).mono ?_; rintro e wb ⟨rfl, rb, k1, k2, k3⟩; have Tb := Lib.hid (Ta.out.swap.step k1 k2 k3).swap; have Sb := Lib.hid (Sa.out.fr k3 (by omega) (fun e => by have := q2 _ e.symm; omega)); have Fb := Lib.hid (Fa.out.second k3); have Rb := Lib.hid (k2.le Fa.out.size); clear k1 k2 k3)
      | fail)
  go_wp2
  go_ret
  exact ⟨rfl, _, _, Tb.out, Fb.out, Ra.out, Rb.out⟩

set_option maxRecDepth 100000 in
set_option maxHeartbeats 4000000 in
theorem does_5 (b1 b2 : Nat) (r1 r2 : Option Nat) (l : List M) (o : Stp) (w : World) (hT : Two w b1 r1 l b2 r2 l) (hF : Fit l) (hk : o.k = 5) :
    Calls Try.prog 12 #[.pointer (some ⟨b1, 0, none⟩), .pointer (some ⟨b2, 0, none⟩), o.val] w (DoesPost b1 b2 r1 r2 (nextL l o) w) := by
  obtain ⟨ok, i, m⟩ := o
  dsimp only at hk
  subst hk
  have hl := hF.le
  have hn : nextL l ⟨5, i, m⟩ = cutL l i := by simp [nextL]
  rw [hn]
  clear hn
  have hb0 : Below w.heap.size w (w.alloc (.cells (Stp.cells ⟨5, i, m⟩) 37)) := (Below.refl _ _).alloc (Nat.le_refl _) _
  have l1 := hT.1.lt
  have l2 := hT.2.1.lt
  have q1 : ∀ g, r1 = some g → g < w.heap.size := fun _ hg => (hT.1.row_lt hg).2
  have q2 : ∀ g, r2 = some g → g < w.heap.size := fun _ hg => (hT.2.1.row_lt hg).2
  have T0 := Lib.hid (hT.below hb0)
  have HB0 := Lib.hid hb0
  have S0 := Lib.hid (SB.fresh w ⟨5, i, m⟩)
  have HS1 := Lib.hid (fun W r (h : Bg W b1 r l) => cut_any b1 r l i W h (by omega))
  have HS2 := Lib.hid (fun W r (h : Bg W b2 r l) => rcut_any b2 r l i W h (by omega))
  change Hid (∀ W r, Bg W b1 r l → Calls Try.prog _ _ W fun e w' => e = .returned (.int .i64 ((l.length : Int) - ((cutL l i).length : Int))) ∧ ∃ row', Bg w' b1 row' (cutL l i) ∧ RowOk r row' W ∧ Fr b1 r W w') at HS1
  change Hid (∀ W r, Bg W b2 r l → Calls Try.prog _ _ W fun e w' => e = .returned (.int .i64 ((l.length : Int) - ((cutL l i).length : Int))) ∧ ∃ row', Bg w' b2 row' (cutL l i) ∧ RowOk r row' W ∧ Fr b2 r W w') at HS2
  generalize (l.length : Int) - ((cutL l i).length : Int) = x at HS1 HS2
  generalize cutL l i = kl at HS1 HS2 ⊢
  clear hT hF hb0
  obtain ⟨z0, z1, z2, z3, z4, z5, z6, z7, z8, z9⟩ := S0.out.all
  go_enter Try.func12, Try.ntmps12
  go_wp2_with fail
  generalize w.alloc (.cells (Stp.cells ⟨5, i, m⟩) 37) = w0 at T0 HB0 S0 z0 z1 z2 z3 z4 z5 z6 z7 z8 z9 ⊢
  have hbd : Below w0.heap.size w0 w0.drew := (Below.refl _ _).drew
  have Tz := Lib.hid (T0.out.below hbd)
  have Fz := Lib.hid (show Fr2 b1 r1 b2 r2 w w0.drew from Fr2.of_below HB0.out.drew)
  have Sz := Lib.hid (S0.out.below hbd)
  clear hbd T0 S0 z0 z1 z2 z3 z4 z5 z6 z7 z8 z9
  go_region_held3 (fun w' => w'.cell? ⟨w.heap.size, 1, none⟩ = some (.int .i64 i))
    (first | exact Sz.out.all.2.1 | exact Sa.out.all.2.1 | exact Sb.out.all.2.1 | fail)
    (first
      | (go_at_call 22; refine (HS1.out _ _ Tz.out.1).mono ?_; rintro e wa ⟨rfl, ra, k1, k2, k3⟩; have Ta := Lib.hid (Tz.out.step k1 k2 k3); have Sa := Lib.hid (Sz.out.fr k3 (by omega) (fun e => by have := q1 _ e.symm; omega)); have Fa := Lib.hid (Fz.out.first k3); have Ra := Lib.hid (k2.after HB0.out.drew); clear k1 k2 k3)
      | (go_at_call 32; refine (HS2.out _ _ Ta.out.swap.1).mono ?_; rintro e wb ⟨rfl, rb, k1, k2, k3⟩; have Tb := Lib.hid (Ta.out.swap.step k1 k2 k3).swap; have Sb := Lib.hid (Sa.out.fr k3 (by omega) (fun e => by have := q2 _ e.symm; omega)); have Fb := Lib.hid (Fa.out.second k3); have Rb := Lib.hid (k2.le Fa.out.size); clear k1 k2 k3)
      | fail)
  go_wp2
  go_ret
  exact ⟨rfl, _, _, Tb.out, Fb.out, Ra.out, Rb.out⟩

set_option maxRecDepth 100000 in
theorem does_off (b1 b2 : Nat) (r1 r2 : Option Nat) (l : List M) (o : Stp) (w : World) (hT : Two w b1 r1 l b2 r2 l) (h0 : o.k ≠ 0) (h1 : o.k ≠ 1) (h2 : o.k ≠ 2) (h3 : o.k ≠ 3) (h4 : o.k ≠ 4) (h5 : o.k ≠ 5) :
    Calls Try.prog 12 #[.pointer (some ⟨b1, 0, none⟩), .pointer (some ⟨b2, 0, none⟩), o.val] w (DoesPost b1 b2 r1 r2 (nextL l o) w) := by
  have hn : nextL l o = l := by simp [nextL, h0, h1, h2, h3, h4, h5]
  rw [hn]
  have hb0 : Below w.heap.size w (w.alloc (.cells o.cells 37)) := (Below.refl _ _).alloc (Nat.le_refl _) _
  have T0 := Lib.hid (hT.below hb0)
  have HB0 := Lib.hid hb0
  have z0 : (o.k == 0) = false := by simpa using h0
  have z1 : (o.k == 1) = false := by simpa using h1
  have z2 : (o.k == 2) = false := by simpa using h2
  have z3 : (o.k == 3) = false := by simpa using h3
  have z4 : (o.k == 4) = false := by simpa using h4
  have z5 : (o.k == 5) = false := by simpa using h5
  clear hT hb0 hn h0 h1 h2 h3 h4 h5
  go_enter Try.func12, Try.ntmps12
  go_wp2
  go_ret
  exact ⟨rfl, _, _, T0.out, Fr2.of_below HB0.out, RowOk.refl _ _, RowOk.refl _ _⟩
theorem does_any (b1 b2 : Nat) (r1 r2 : Option Nat) (l : List M) (o : Stp) (w : World) (hT : Two w b1 r1 l b2 r2 l) (hF : Fit l) :
    Calls Try.prog 12 #[.pointer (some ⟨b1, 0, none⟩), .pointer (some ⟨b2, 0, none⟩), o.val] w (DoesPost b1 b2 r1 r2 (nextL l o) w) := by
  by_cases h0 : o.k = 0
  · exact does_0 b1 b2 r1 r2 l o w hT hF h0
  by_cases h1 : o.k = 1
  · exact does_1 b1 b2 r1 r2 l o w hT hF h1
  by_cases h2 : o.k = 2
  · exact does_2 b1 b2 r1 r2 l o w hT hF h2
  by_cases h3 : o.k = 3
  · exact does_3 b1 b2 r1 r2 l o w hT hF h3
  by_cases h4 : o.k = 4
  · exact does_4 b1 b2 r1 r2 l o w hT hF h4
  by_cases h5 : o.k = 5
  · exact does_5 b1 b2 r1 r2 l o w hT hF h5
  exact does_off b1 b2 r1 r2 l o w hT h0 h1 h2 h3 h4 h5
end Go.Proofs.Ythcoghgpdcnhlaa
