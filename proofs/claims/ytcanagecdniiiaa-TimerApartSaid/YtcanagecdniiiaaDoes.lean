/-
  A step of the laws of layer 6, at the timers and at the document's own: does, by a contract.
-/
import Derived.Test.YtcanagecdniiiaaHelp
import Derived.Test.YtcanagecdniiiaaDue
import Derived.Test.YtcanagecdniiiaaRrest
namespace Go.Proofs.Ytcanagecdniiiaa
open Go.RowKit

/-- A step. -/
structure Stp where
  k : Int
  a : Al
@[reducible] def Stp.val (o : Stp) : Value := .agg #[.int .i64 o.k, .int .i64 o.a.n, .int .i64 o.a.a, .int .i64 o.a.t]
@[reducible] def Stp.cells (o : Stp) : Array Value := #[.int .i64 o.k, .int .i64 o.a.n, .int .i64 o.a.a, .int .i64 o.a.t]
/-- What a step leaves. -/
def nxt (l : List Al) (o : Stp) : List Al :=
  if o.k = 0 then setL l o.a else if o.k = 1 then wo l o.a.n o.a.t else if o.k = 2 then leftL l o.a.n o.a.a else if o.k = 3 then clearL l o.a.n else l
theorem Good.nxt {l : List Al} (h : Good l) (o : Stp) : Good (nxt l o) := by
  unfold Go.Proofs.Ytcanagecdniiiaa.nxt
  repeat' split
  · exact h.set _
  · exact h.wo _ _
  · exact h.left _ _
  · exact h.clear _
  · exact h

/-- Timers, and the document's own. -/
structure Both (w : World) (B1 mb : Nat) (l : List Al) (B2 : Nat) (k : List Al) : Prop where
  tms : Tms w B1 mb l
  rf : Rf w B2 k
  good : Good k
  ne : B1 ≠ B2
theorem Both.mb_ne {w : World} {B1 mb B2 : Nat} {l k : List Al} (h : Both w B1 mb l B2 k) : mb ≠ B2 := by
  obtain ⟨s, hs, -⟩ := h.rf.open'
  exact h.tms.2.ne_cells hs
theorem Both.prog {w w' : World} {B1 mb B2 : Nat} {l l' k : List Al} (h : Both w B1 mb l B2 k) (hg : w.grownBy w' (some mb)) (hT : Tms w' B1 mb l') : Both w' B1 mb l' B2 k :=
  ⟨hT, h.rf.kept hg (fun e => h.mb_ne (Option.some.inj e).symm) (fun g cs fr hc e => by
    obtain ⟨D, ⟨es, clock, hb, _⟩, _⟩ := h.tms.2
    have := Option.some.inj e
    subst this
    rw [hb] at hc; cases hc), h.good, h.ne⟩
theorem Both.ref {w w' : World} {B1 mb B2 : Nat} {l k k' : List Al} (h : Both w B1 mb l B2 k) (hg : w.grownBy w' (some B2)) (hT : Rf w' B2 k') (hG : Good k') : Both w' B1 mb l B2 k' :=
  ⟨h.tms.kept hg (fun e => h.ne (Option.some.inj e)) (fun e => h.mb_ne (Option.some.inj e)), hT, hG, h.ne⟩
theorem Both.below {w w' : World} {B1 mb B2 : Nat} {l k : List Al} (h : Both w B1 mb l B2 k) (hb : Below w.heap.size w w') : Both w' B1 mb l B2 k := ⟨h.tms.below hb, h.rf.below hb, h.good, h.ne⟩

/-- From w to w' only the map mb, block B and new blocks have turned. -/
structure G2 (mb B : Nat) (w w' : World) : Prop where
  os : w'.os = w.os
  tape : w'.tape = w.tape
  output : w'.output = w.output
  size : w.heap.size ≤ w'.heap.size
  block : ∀ k, k < w.heap.size → k ≠ mb → k ≠ B → w'.heap[k]? = w.heap[k]?
theorem G2.of_below {mb B : Nat} {w w' : World} (h : Below w.heap.size w w') : G2 mb B w w' := ⟨h.os, h.tape, h.output, h.size, fun k hk _ _ => h.block k hk⟩
theorem G2.prog {mb B : Nat} {w w1 w2 : World} (h : G2 mb B w w1) (k : w1.grownBy w2 (some mb)) : G2 mb B w w2 :=
  ⟨k.os.trans h.os, k.tape.trans h.tape, k.output.trans h.output, Nat.le_trans h.size k.size, fun i hi h1 h2 => (k.block i (Nat.lt_of_lt_of_le hi h.size) (fun e => h1 (Option.some.inj e))).trans (h.block i hi h1 h2)⟩
theorem G2.ref {mb B : Nat} {w w1 w2 : World} (h : G2 mb B w w1) (k : w1.grownBy w2 (some B)) : G2 mb B w w2 :=
  ⟨k.os.trans h.os, k.tape.trans h.tape, k.output.trans h.output, Nat.le_trans h.size k.size, fun i hi h1 h2 => (k.block i (Nat.lt_of_lt_of_le hi h.size) (fun e => h2 (Option.some.inj e))).trans (h.block i hi h1 h2)⟩
theorem G2.then_below {mb B : Nat} {w w1 w2 : World} (h : G2 mb B w w1) (k : Below w1.heap.size w1 w2) : G2 mb B w w2 := h.prog (grown_of_below k _)
theorem G2.below {mb B base : Nat} {w0 w w' : World} (h : G2 mb B w w') (hb : Below base w0 w) (hs : base ≤ w.heap.size) (h1 : base ≤ mb) (h2 : base ≤ B) : Below base w0 w' :=
  ⟨h.os.trans hb.os, h.tape.trans hb.tape, h.output.trans hb.output, Nat.le_trans hb.size h.size, fun k hk => (h.block k (by omega) (by omega) (by omega)).trans (hb.block k hk)⟩

/-- The cells that a step reads: its own, and those of its alarm laid anew. -/
def DC (w : World) (c : Nat) (o : Stp) : Prop := w.cell? ⟨c, 0, none⟩ = some (.int .i64 o.k) ∧ w.cell? ⟨c, 1, none⟩ = some (.int .i64 o.a.n) ∧ w.cell? ⟨c, 2, none⟩ = some (.int .i64 o.a.a) ∧ w.cell? ⟨c, 3, none⟩ = some (.int .i64 o.a.t) ∧ w.cell? ⟨c + 1, 0, none⟩ = some (.int .i64 o.a.n) ∧ w.cell? ⟨c + 1, 1, none⟩ = some (.int .i64 o.a.a) ∧ w.cell? ⟨c + 1, 2, none⟩ = some (.int .i64 o.a.t)
theorem DC.kept {w w' : World} {c : Nat} {o : Stp} {row : Option Nat} (h : DC w c o) (hg : w.grownBy w' row) (h1 : some c ≠ row) (h2 : some (c + 1) ≠ row) : DC w' c o := by
  obtain ⟨c0, c1, c2, c3, c4, c5, c6⟩ := h
  exact ⟨hg.cell c0 h1, hg.cell c1 h1, hg.cell c2 h1, hg.cell c3 h1, hg.cell c4 h2, hg.cell c5 h2, hg.cell c6 h2⟩
theorem DC.below {w w' : World} {c : Nat} {o : Stp} (h : DC w c o) (hb : Below w.heap.size w w') : DC w' c o := h.kept (grown_of_below hb none) (by simp) (by simp)
theorem DC.start (w : World) (o : Stp) : DC ((w.alloc (.cells o.cells 33)).alloc (.cells o.a.cells 40)) w.heap.size o := by
  have hb : Below (w.heap.size + 1) (w.alloc (.cells o.cells 33)) ((w.alloc (.cells o.cells 33)).alloc (.cells o.a.cells 40)) := (Below.refl _ _).alloc (by simp) _
  have h1 := heap_alloc_new w (.cells o.cells 33)
  have key : ∀ i, ((w.alloc (.cells o.cells 33)).alloc (.cells o.a.cells 40)).cell? ⟨w.heap.size, i, none⟩ = o.cells[i]? := fun i => by
    rw [hb.cell (p := ⟨w.heap.size, i, none⟩) (Nat.lt_succ_self _)]
    unfold World.cell?; simp only [h1]; rfl
  have h2 := (AB.fresh 40 (w.alloc (.cells o.cells 33)) o.a).all
  rw [World.size_alloc] at h2
  exact ⟨key 0, key 1, key 2, key 3, h2.1, h2.2.1, h2.2.2⟩

def DoesPost (B1 mb : Nat) (l : List Al) (B2 : Nat) (k : List Al) (o : Stp) (w : World) (e : Ending) (w' : World) : Prop :=
  ∃ b : Bool, e = .returned (.bool b) ∧ (l = k → b = true) ∧ Both w' B1 mb (nxt l o) B2 (nxt k o) ∧ G2 mb B2 w w'

set_option maxRecDepth 100000 in
set_option maxHeartbeats 4000000 in
theorem does_0 (B1 mb B2 : Nat) (l k : List Al) (a : Al) (w : World) (hT : Both w B1 mb l B2 k) :
    Calls Try.prog 9 #[.pointer (some ⟨B1, 0, none⟩), .pointer (some ⟨B2, 0, none⟩), (Stp.mk 0 a).val] w (DoesPost B1 mb l B2 k ⟨0, a⟩ w) := by
  unfold DoesPost
  have n1 : nxt l ⟨0, a⟩ = setL l a := rfl
  have n2 : nxt k ⟨0, a⟩ = setL k a := rfl
  rw [n1, n2]
  clear n1 n2
  have hle := hT.tms.2.good.le
  have hlk := hT.good.le
  have hb0 : Below w.heap.size w (((w.alloc (.cells (Stp.cells ⟨0, a⟩) 33)).alloc (.cells a.cells 40)).drew) := (((Below.refl _ _).alloc (Nat.le_refl _) _).alloc (by simp) _).drew
  have q1 : mb < w.heap.size := hT.tms.2.lt
  have q2 : B2 < w.heap.size := hT.rf.lt
  have Tz := Lib.hid (hT.below hb0)
  have Gz := Lib.hid (G2.of_below (mb := mb) (B := B2) hb0)
  have hs0 := DC.start w ⟨0, a⟩
  have Sz := Lib.hid (hs0.below ((Below.refl _ _).drew))
  have x1 : some w.heap.size ≠ some mb := fun e => by have := Option.some.inj e; omega
  have x2 : some (w.heap.size + 1) ≠ some mb := fun e => by have := Option.some.inj e; omega
  have x3 : some w.heap.size ≠ some B2 := fun e => by have := Option.some.inj e; omega
  have x4 : some (w.heap.size + 1) ≠ some B2 := fun e => by have := Option.some.inj e; omega
  have HS1 := Lib.hid (fun W (h : Both W B1 mb l B2 k) => set_any B1 mb l a W h.tms)
  have HS2 := Lib.hid (fun W l' (h : Both W B1 mb l' B2 k) => rset_any B2 k a W h.rf h.good)
  have HXY := Lib.hid (show l = k → setE l a = setE k a from fun e => by rw [e])
  have HG := Lib.hid (show Good (setL k a) from hT.good.set a)
  generalize setE l a = x at HS1 HXY
  generalize setE k a = y at HS2 HXY
  generalize setL l a = kl at HS1 ⊢
  generalize setL k a = kk at HS2 HG ⊢
  obtain ⟨z0, z1, z2, z3, z4, z5, z6⟩ := hs0
  clear hb0 hT
  go_enter Try.func9, Try.ntmps9
  go_wp2_with fail
  generalize hW : (w.alloc (.cells (Stp.cells ⟨0, a⟩) 33)).alloc (.cells a.cells 40) = w0 at Tz Gz Sz z0 z1 z2 z3 z4 z5 z6 ⊢
  clear hW
  go_region_held3 (fun w' => w'.cell? ⟨w.heap.size, 0, none⟩ = some (.int .i64 0) ∧ w'.cell? ⟨w.heap.size, 1, none⟩ = some (.int .i64 a.n) ∧ w'.cell? ⟨w.heap.size, 2, none⟩ = some (.int .i64 a.a) ∧ w'.cell? ⟨w.heap.size, 3, none⟩ = some (.int .i64 a.t) ∧ w'.cell? ⟨w.heap.size + 1, 0, none⟩ = some (.int .i64 a.n) ∧ w'.cell? ⟨w.heap.size + 1, 1, none⟩ = some (.int .i64 a.a) ∧ w'.cell? ⟨w.heap.size + 1, 2, none⟩ = some (.int .i64 a.t))
    (first | exact Sz.out | exact Sa.out | exact Sb.out | fail)
    (first
      | (go_at_call 16; refine (HS1.out _ Tz.out).mono ?_; rintro e wa ⟨rfl, k1, k2⟩; have Ta := Lib.hid (Tz.out.prog k2 k1); have Sa := Lib.hid (Sz.out.kept k2 x1 x2); have Ga := Lib.hid (Gz.out.prog k2); clear k1 k2)
      | (go_at_call 17; refine (HS2.out _ _ Ta.out).mono ?_; rintro e wb ⟨rfl, k1, k2⟩; have Tb := Lib.hid (Ta.out.ref k2 k1 HG.out); have Sb := Lib.hid (Sa.out.kept k2 x3 x4); have Gb := Lib.hid (Ga.out.ref k2); clear k1 k2)
      | fail)
  go_wp2
  go_ret
  exact ⟨_, rfl, fun h => by rw [HXY.out h]; simp, Tb.out, Gb.out⟩

set_option maxRecDepth 100000 in
set_option maxHeartbeats 4000000 in
theorem does_1 (B1 mb B2 : Nat) (l k : List Al) (a : Al) (w : World) (hT : Both w B1 mb l B2 k) (hn : i64 a.n) (ht : i64 a.t) :
    Calls Try.prog 9 #[.pointer (some ⟨B1, 0, none⟩), .pointer (some ⟨B2, 0, none⟩), (Stp.mk 1 a).val] w (DoesPost B1 mb l B2 k ⟨1, a⟩ w) := by
  unfold DoesPost
  have n1 : nxt l ⟨1, a⟩ = wo l a.n a.t := rfl
  have n2 : nxt k ⟨1, a⟩ = wo k a.n a.t := rfl
  rw [n1, n2]
  clear n1 n2
  have hle := hT.tms.2.good.le
  have hlk := hT.good.le
  have hb0 : Below w.heap.size w (((w.alloc (.cells (Stp.cells ⟨1, a⟩) 33)).alloc (.cells a.cells 40)).drew) := (((Below.refl _ _).alloc (Nat.le_refl _) _).alloc (by simp) _).drew
  have q1 : mb < w.heap.size := hT.tms.2.lt
  have q2 : B2 < w.heap.size := hT.rf.lt
  have Tz := Lib.hid (hT.below hb0)
  have Gz := Lib.hid (G2.of_below (mb := mb) (B := B2) hb0)
  have hs0 := DC.start w ⟨1, a⟩
  have Sz := Lib.hid (hs0.below ((Below.refl _ _).drew))
  have x1 : some w.heap.size ≠ some mb := fun e => by have := Option.some.inj e; omega
  have x2 : some (w.heap.size + 1) ≠ some mb := fun e => by have := Option.some.inj e; omega
  have x3 : some w.heap.size ≠ some B2 := fun e => by have := Option.some.inj e; omega
  have x4 : some (w.heap.size + 1) ≠ some B2 := fun e => by have := Option.some.inj e; omega
  have HS1 := Lib.hid (fun W (h : Both W B1 mb l B2 k) => stop_any B1 mb l a.n a.t W h.tms hn ht)
  have HS2 := Lib.hid (fun W l' (h : Both W B1 mb l' B2 k) => rstop_any B2 k a.n a.t W h.rf h.good)
  have HXY := Lib.hid (show l = k → stopE l a.n a.t = stopE k a.n a.t from fun e => by rw [e])
  have HG := Lib.hid (show Good (wo k a.n a.t) from hT.good.wo a.n a.t)
  generalize stopE l a.n a.t = x at HS1 HXY
  generalize stopE k a.n a.t = y at HS2 HXY
  generalize wo l a.n a.t = kl at HS1 ⊢
  generalize wo k a.n a.t = kk at HS2 HG ⊢
  obtain ⟨z0, z1, z2, z3, z4, z5, z6⟩ := hs0
  clear hb0 hT
  go_enter Try.func9, Try.ntmps9
  go_wp2_with fail
  generalize hW : (w.alloc (.cells (Stp.cells ⟨1, a⟩) 33)).alloc (.cells a.cells 40) = w0 at Tz Gz Sz z0 z1 z2 z3 z4 z5 z6 ⊢
  clear hW
  go_region_held3 (fun w' => w'.cell? ⟨w.heap.size, 0, none⟩ = some (.int .i64 1) ∧ w'.cell? ⟨w.heap.size, 1, none⟩ = some (.int .i64 a.n) ∧ w'.cell? ⟨w.heap.size, 2, none⟩ = some (.int .i64 a.a) ∧ w'.cell? ⟨w.heap.size, 3, none⟩ = some (.int .i64 a.t) ∧ w'.cell? ⟨w.heap.size + 1, 0, none⟩ = some (.int .i64 a.n) ∧ w'.cell? ⟨w.heap.size + 1, 1, none⟩ = some (.int .i64 a.a) ∧ w'.cell? ⟨w.heap.size + 1, 2, none⟩ = some (.int .i64 a.t))
    (first | exact Sz.out | exact Sa.out | exact Sb.out | fail)
    (first
      | (go_at_call 21; refine (HS1.out _ Tz.out).mono ?_; rintro e wa ⟨rfl, k1, k2⟩; have Ta := Lib.hid (Tz.out.prog k2 k1); have Sa := Lib.hid (Sz.out.kept k2 x1 x2); have Ga := Lib.hid (Gz.out.prog k2); clear k1 k2)
      | (go_at_call 22; refine (HS2.out _ _ Ta.out).mono ?_; rintro e wb ⟨rfl, k1, k2⟩; have Tb := Lib.hid (Ta.out.ref k2 k1 HG.out); have Sb := Lib.hid (Sa.out.kept k2 x3 x4); have Gb := Lib.hid (Ga.out.ref k2); clear k1 k2)
      | fail)
  go_wp2
  go_ret
  exact ⟨_, rfl, fun h => by rw [HXY.out h]; simp, Tb.out, Gb.out⟩

set_option maxRecDepth 100000 in
set_option maxHeartbeats 4000000 in
theorem does_3 (B1 mb B2 : Nat) (l k : List Al) (a : Al) (w : World) (hT : Both w B1 mb l B2 k) :
    Calls Try.prog 9 #[.pointer (some ⟨B1, 0, none⟩), .pointer (some ⟨B2, 0, none⟩), (Stp.mk 3 a).val] w (DoesPost B1 mb l B2 k ⟨3, a⟩ w) := by
  unfold DoesPost
  have n1 : nxt l ⟨3, a⟩ = clearL l a.n := rfl
  have n2 : nxt k ⟨3, a⟩ = clearL k a.n := rfl
  rw [n1, n2]
  clear n1 n2
  have hle := hT.tms.2.good.le
  have hlk := hT.good.le
  have hb0 : Below w.heap.size w (((w.alloc (.cells (Stp.cells ⟨3, a⟩) 33)).alloc (.cells a.cells 40)).drew) := (((Below.refl _ _).alloc (Nat.le_refl _) _).alloc (by simp) _).drew
  have q1 : mb < w.heap.size := hT.tms.2.lt
  have q2 : B2 < w.heap.size := hT.rf.lt
  have Tz := Lib.hid (hT.below hb0)
  have Gz := Lib.hid (G2.of_below (mb := mb) (B := B2) hb0)
  have hs0 := DC.start w ⟨3, a⟩
  have Sz := Lib.hid (hs0.below ((Below.refl _ _).drew))
  have x1 : some w.heap.size ≠ some mb := fun e => by have := Option.some.inj e; omega
  have x2 : some (w.heap.size + 1) ≠ some mb := fun e => by have := Option.some.inj e; omega
  have x3 : some w.heap.size ≠ some B2 := fun e => by have := Option.some.inj e; omega
  have x4 : some (w.heap.size + 1) ≠ some B2 := fun e => by have := Option.some.inj e; omega
  have HS1 := Lib.hid (fun W (h : Both W B1 mb l B2 k) => clear_any B1 mb l a.n W h.tms)
  have HS2 := Lib.hid (fun W l' (h : Both W B1 mb l' B2 k) => rclear_any B2 k a.n W h.rf (by omega))
  have HXY := Lib.hid (show l = k → (ofNode l a.n).length = (ofNode k a.n).length from fun e => by rw [e])
  have HG := Lib.hid (show Good (clearL k a.n) from hT.good.clear a.n)
  generalize (ofNode l a.n).length = x at HS1 HXY
  generalize (ofNode k a.n).length = y at HS2 HXY
  generalize clearL l a.n = kl at HS1 ⊢
  generalize clearL k a.n = kk at HS2 HG ⊢
  obtain ⟨z0, z1, z2, z3, z4, z5, z6⟩ := hs0
  clear hb0 hT
  go_enter Try.func9, Try.ntmps9
  go_wp2_with fail
  generalize hW : (w.alloc (.cells (Stp.cells ⟨3, a⟩) 33)).alloc (.cells a.cells 40) = w0 at Tz Gz Sz z0 z1 z2 z3 z4 z5 z6 ⊢
  clear hW
  go_region_held3 (fun w' => w'.cell? ⟨w.heap.size, 0, none⟩ = some (.int .i64 3) ∧ w'.cell? ⟨w.heap.size, 1, none⟩ = some (.int .i64 a.n) ∧ w'.cell? ⟨w.heap.size, 2, none⟩ = some (.int .i64 a.a) ∧ w'.cell? ⟨w.heap.size, 3, none⟩ = some (.int .i64 a.t) ∧ w'.cell? ⟨w.heap.size + 1, 0, none⟩ = some (.int .i64 a.n) ∧ w'.cell? ⟨w.heap.size + 1, 1, none⟩ = some (.int .i64 a.a) ∧ w'.cell? ⟨w.heap.size + 1, 2, none⟩ = some (.int .i64 a.t))
    (first | exact Sz.out | exact Sa.out | exact Sb.out | fail)
    (first
      | (go_at_call 20; refine (HS1.out _ Tz.out).mono ?_; rintro e wa ⟨rfl, k1, k2⟩; have Ta := Lib.hid (Tz.out.prog k2 k1); have Sa := Lib.hid (Sz.out.kept k2 x1 x2); have Ga := Lib.hid (Gz.out.prog k2); clear k1 k2)
      | (go_at_call 23; refine (HS2.out _ _ Ta.out).mono ?_; rintro e wb ⟨rfl, k1, k2⟩; have Tb := Lib.hid (Ta.out.ref k2 k1 HG.out); have Sb := Lib.hid (Sa.out.kept k2 x3 x4); have Gb := Lib.hid (Ga.out.ref k2); clear k1 k2)
      | fail)
  go_wp2
  go_ret
  exact ⟨_, rfl, fun h => by rw [HXY.out h]; simp, Tb.out, Gb.out⟩

set_option maxRecDepth 100000 in
set_option maxHeartbeats 4000000 in
theorem does_2 (B1 mb B2 : Nat) (l k : List Al) (a : Al) (w : World) (hT : Both w B1 mb l B2 k) :
    Calls Try.prog 9 #[.pointer (some ⟨B1, 0, none⟩), .pointer (some ⟨B2, 0, none⟩), (Stp.mk 2 a).val] w (DoesPost B1 mb l B2 k ⟨2, a⟩ w) := by
  unfold DoesPost
  have n1 : nxt l ⟨2, a⟩ = leftL l a.n a.a := rfl
  have n2 : nxt k ⟨2, a⟩ = leftL k a.n a.a := rfl
  rw [n1, n2]
  clear n1 n2
  have hle := hT.tms.2.good.le
  have hlk := hT.good.le
  have hb0 : Below w.heap.size w (((w.alloc (.cells (Stp.cells ⟨2, a⟩) 33)).alloc (.cells a.cells 40)).drew) := (((Below.refl _ _).alloc (Nat.le_refl _) _).alloc (by simp) _).drew
  have q1 : mb < w.heap.size := hT.tms.2.lt
  have q2 : B2 < w.heap.size := hT.rf.lt
  have Tz := Lib.hid (hT.below hb0)
  have Gz := Lib.hid (G2.of_below (mb := mb) (B := B2) hb0)
  have hs0 := DC.start w ⟨2, a⟩
  have Sz := Lib.hid (hs0.below ((Below.refl _ _).drew))
  have x1 : some w.heap.size ≠ some mb := fun e => by have := Option.some.inj e; omega
  have x2 : some (w.heap.size + 1) ≠ some mb := fun e => by have := Option.some.inj e; omega
  have x3 : some w.heap.size ≠ some B2 := fun e => by have := Option.some.inj e; omega
  have x4 : some (w.heap.size + 1) ≠ some B2 := fun e => by have := Option.some.inj e; omega
  have HS1 := Lib.hid (fun W (h : Both W B1 mb l B2 k) => due_any B1 mb l a.n a.a W h.tms)
  have HS2 := Lib.hid (fun W l' (h : Both W B1 mb l' B2 k) => rdue_any B2 k a.n a.a W h.rf (by omega))
  have HXY := Lib.hid (show l = k → dueL l a.n a.a = dueL k a.n a.a from fun e => by rw [e])
  have HG := Lib.hid (show Good (leftL k a.n a.a) from hT.good.left a.n a.a)
  have hdl : (dueL l a.n a.a).length ≤ 64 := Nat.le_trans (List.length_filter_le _ _) hle
  generalize dueL l a.n a.a = x at HS1 HXY hdl
  generalize dueL k a.n a.a = y at HS2 HXY
  generalize leftL l a.n a.a = kl at HS1 ⊢
  generalize leftL k a.n a.a = kk at HS2 HG ⊢
  obtain ⟨z0, z1, z2, z3, z4, z5, z6⟩ := hs0
  clear hb0 hT
  go_enter Try.func9, Try.ntmps9
  go_wp2_with fail
  generalize hW : (w.alloc (.cells (Stp.cells ⟨2, a⟩) 33)).alloc (.cells a.cells 40) = w0 at Tz Gz Sz z0 z1 z2 z3 z4 z5 z6 ⊢
  clear hW
  go_region_held3 (fun w' => w'.cell? ⟨w.heap.size, 0, none⟩ = some (.int .i64 2) ∧ w'.cell? ⟨w.heap.size, 1, none⟩ = some (.int .i64 a.n) ∧ w'.cell? ⟨w.heap.size, 2, none⟩ = some (.int .i64 a.a) ∧ w'.cell? ⟨w.heap.size, 3, none⟩ = some (.int .i64 a.t) ∧ w'.cell? ⟨w.heap.size + 1, 0, none⟩ = some (.int .i64 a.n) ∧ w'.cell? ⟨w.heap.size + 1, 1, none⟩ = some (.int .i64 a.a) ∧ w'.cell? ⟨w.heap.size + 1, 2, none⟩ = some (.int .i64 a.t))
    (first | exact Sz.out | exact Sa.out | exact Sb.out | exact Sc.out | exact Sd.out | fail)
    (first
      | (go_at_call 18; refine (HS1.out _ Tz.out).mono ?_; rintro e wa ⟨va, rfl, k0, k1, k2⟩; have Ta := Lib.hid (Tz.out.prog k2 k1); have Sa := Lib.hid (Sz.out.kept k2 x1 x2); have Ga := Lib.hid (Gz.out.prog k2); have Va := Lib.hid k0; clear k0 k1 k2)
      | (go_at_call 11; refine (theirs_any _ _ x _ Va.out (by omega)).mono ?_; rintro e wb ⟨vb, rfl, k0, k1⟩; have Tb := Lib.hid (Ta.out.below k1); have Sb := Lib.hid (Sa.out.below k1); have Gb := Lib.hid (Ga.out.then_below k1); have Vb := Lib.hid k0; clear k0 k1)
      | (go_at_call 19; refine (HS2.out _ _ Tb.out).mono ?_; rintro e wc ⟨vc, rfl, k0, k1, k2⟩; have Tc := Lib.hid (Tb.out.ref k2 k1 HG.out); have Sc := Lib.hid (Sb.out.kept k2 x3 x4); have Gc := Lib.hid (Gb.out.ref k2); have Vc := Lib.hid k0; (have Vb' := Lib.hid (Vb.out.grown k2 (fun g hg e => by obtain ⟨s9, h9, -⟩ := Tb.out.rf; exact row_ne_timers h9 Vb.out (by rw [hg, e])))); clear k0 k1 k2)
      | (go_at_call 10; refine (same_any _ _ _ _ x y _ Vb'.out Vc.out (by omega)).mono ?_; rintro e wd ⟨rfl, k1⟩; have Td := Lib.hid (Tc.out.below k1); have Sd := Lib.hid (Sc.out.below k1); have Gd := Lib.hid (Gc.out.then_below k1); clear k1)
      | fail)
  go_wp2
  go_ret
  exact ⟨_, rfl, fun h => decide_eq_true (HXY.out h), Td.out, Gd.out⟩

set_option maxRecDepth 100000 in
set_option maxHeartbeats 4000000 in
theorem does_else (B1 mb B2 : Nat) (l k : List Al) (o : Stp) (w : World) (hT : Both w B1 mb l B2 k) (h0 : o.k ≠ 0) (h1 : o.k ≠ 1) (h2 : o.k ≠ 2) (h3 : o.k ≠ 3) :
    Calls Try.prog 9 #[.pointer (some ⟨B1, 0, none⟩), .pointer (some ⟨B2, 0, none⟩), o.val] w (DoesPost B1 mb l B2 k o w) := by
  unfold DoesPost
  have hn : ∀ l, nxt l o = l := fun l => by unfold nxt; rw [if_neg h0, if_neg h1, if_neg h2, if_neg h3]
  rw [hn, hn]
  obtain ⟨kk, a⟩ := o
  dsimp only at h0 h1 h2 h3
  have p0 : (kk == 0) = false := by simpa using h0
  have p1 : (kk == 1) = false := by simpa using h1
  have p2 : (kk == 2) = false := by simpa using h2
  have p3 : (kk == 3) = false := by simpa using h3
  have hb0 : Below w.heap.size w ((w.alloc (.cells (Stp.cells ⟨kk, a⟩) 33)).alloc (.cells a.cells 40)) := ((Below.refl _ _).alloc (Nat.le_refl _) _).alloc (by simp) _
  have HB := Lib.hid hb0
  clear h0 h1 h2 h3 hn hb0
  go_enter Try.func9, Try.ntmps9
  go_wp2
  go_ret
  exact ⟨_, rfl, fun _ => rfl, hT.below HB.out, G2.of_below HB.out⟩
theorem does_any (B1 mb B2 : Nat) (l k : List Al) (o : Stp) (w : World) (hT : Both w B1 mb l B2 k) (hn : i64 o.a.n) (ht : i64 o.a.t) :
    Calls Try.prog 9 #[.pointer (some ⟨B1, 0, none⟩), .pointer (some ⟨B2, 0, none⟩), o.val] w (DoesPost B1 mb l B2 k o w) := by
  by_cases h0 : o.k = 0
  · obtain ⟨kk, a⟩ := o; dsimp only at h0; subst h0; exact does_0 B1 mb B2 l k a w hT
  by_cases h1 : o.k = 1
  · obtain ⟨kk, a⟩ := o; dsimp only at h1; subst h1; exact does_1 B1 mb B2 l k a w hT hn ht
  by_cases h2 : o.k = 2
  · obtain ⟨kk, a⟩ := o; dsimp only at h2; subst h2; exact does_2 B1 mb B2 l k a w hT
  by_cases h3 : o.k = 3
  · obtain ⟨kk, a⟩ := o; dsimp only at h3; subst h3; exact does_3 B1 mb B2 l k a w hT
  exact does_else B1 mb B2 l k o w hT h0 h1 h2 h3
end Go.Proofs.Ytcanagecdniiiaa
