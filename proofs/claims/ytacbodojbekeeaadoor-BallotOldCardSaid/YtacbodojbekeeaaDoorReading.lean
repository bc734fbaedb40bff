/-
  What is kept while an acceptor is read (package ballot).
-/
import Derived.Test.YtacbodojbekeeaaDoorClo10
import Derived.Test.YtacbodojbekeeaaDoorAcp3
namespace Go.Proofs.YtacbodojbekeeaaDoor
open Go.RowKit Go.Lib Go.PlainAid

theorem ErrType.kept {w w' : World} (h : ErrType w) (hb : w'.heap[1]? = w.heap[1]?) : ErrType w' := by
  unfold ErrType at *
  rw [World.cell?_of_block (w := w) (a := ⟨1, 0, none⟩) hb]; exact h
theorem ErrType.lt {w : World} (h : ErrType w) : 1 < w.heap.size := World.block_lt_of_cell? w _ h
/-- An acceptor is being read into block a, from the reader in block R; since w only these have turned, and new blocks. -/
structure Rs (w : World) (a R : Nat) (t : ByteArray) (wr : World) (fv : Value) (q : Nat) (p : Int) (l : List V) : Prop where
  la : a < w.heap.size
  lR : R < w.heap.size
  ne : a ≠ R
  ga : 1 < a
  gR : 1 < R
  cl : Cl wr R w.heap.size (w.heap.size + 2) (w.heap.size + 1)
  ec : EC wr (w.heap.size + 1) fv
  ise : isE fv
  rdr : Rdr wr R t q
  le : q ≤ t.size
  sz : t.size ≤ 1000000000
  fr : Fr a (some R) w wr
  et : ErrType wr
  pc : PC wr a p l
  srt : Srt 0 l
section
variable {w wr w' : World} {a R q q' : Nat} {t : ByteArray} {fv fv' : Value} {p p' : Int} {l l' : List V}
theorem PC.two (h : PC wr a p l) {F : Nat} (hE : EC wr F fv) (hR : Rdr wr R t q) (h1 : a ≠ F) (h2 : a ≠ R) (hf : Fr F (some R) wr w') : PC w' a p l := by
  refine h.kept (hf.block a h.lt h1 (by simp; omega)) fun z v hz => hf.block z hz.lt (type_ne hz hE (by decide)) (fun e => ?_)
  injection e with e
  subst e
  have h0 := hz.all.1
  rw [hR.1] at h0
  cases h0
/-- A closure was called: the reader and the first error have turned. -/
theorem Rs.clo (h : Rs w a R t wr fv q p l) (hE : EC w' (w.heap.size + 1) fv') (hi : isE fv') (hR : Rdr w' R t q') (hq : q' ≤ t.size) (hf : Fr (w.heap.size + 1) (some R) wr w') : Rs w a R t w' fv' q' p l := by
  have h1 := h.la
  have h2 := h.lR
  have h3 := h.gR
  have h4 := h.fr.size
  refine ⟨h1, h2, h.ne, h.ga, h3, ⟨?_, ?_⟩, hE, hi, hR, hq, h.sz, ⟨hf.os.trans h.fr.os, hf.tape.trans h.fr.tape, hf.output.trans h.fr.output, Nat.le_trans h.fr.size hf.size, fun k hk g1 g2 => (hf.block k (by omega) (by omega) g2).trans (h.fr.block k hk g1 g2)⟩, h.et.kept (hf.block _ h.et.lt (by omega) (by simp; omega)), h.pc.two h.ec h.rdr (by omega) h.ne hf, h.srt⟩
  · have hl := World.block_lt_of_cell? wr _ h.cl.rb
    rw [World.cell?_of_block (w := wr) (a := ⟨w.heap.size, 0, none⟩) (hf.block w.heap.size hl (by omega) (by simp; omega))]; exact h.cl.rb
  · have hl := World.block_lt_of_cell? wr _ h.cl.kb
    rw [World.cell?_of_block (w := wr) (a := ⟨w.heap.size + 2, 0, none⟩) (hf.block (w.heap.size + 2) hl (by omega) (by simp; omega))]; exact h.cl.kb
/-- keep was called. -/
theorem Rs.kp (h : Rs w a R t wr fv q p l) (hE : EC w' (w.heap.size + 1) fv') (hi : isE fv') (hf : Fb (w.heap.size + 1) wr w') : Rs w a R t w' fv' q p l :=
  h.clo hE hi (h.rdr.fb hf (by have := h.lR; omega)) h.le ⟨hf.os, hf.tape, hf.output, hf.size, fun k hk g1 _ => hf.block k hk g1 (by simp)⟩
/-- New blocks alone. -/
theorem Rs.low (h : Rs w a R t wr fv q p l) (hb : Below wr.heap.size wr w') : Rs w a R t w' fv q p l := by
  have h4 := h.fr.size
  exact ⟨h.la, h.lR, h.ne, h.ga, h.gR, h.cl.below hb, h.ec.below hb, h.ise, h.rdr.below hb, h.le, h.sz, ⟨hb.os.trans h.fr.os, hb.tape.trans h.fr.tape, hb.output.trans h.fr.output, Nat.le_trans h.fr.size hb.size, fun k hk g1 g2 => (hb.block k (by omega)).trans (h.fr.block k hk g1 g2)⟩, h.et.kept (hb.block _ h.et.lt), h.pc.below hb, h.srt⟩
/-- The acceptor has turned. -/
theorem Rs.acc (h : Rs w a R t wr fv q p l) (hP : PC w' a p' l') (hs : Srt 0 l') (hf : Fb a wr w') : Rs w a R t w' fv q p' l' := by
  have h1 := h.la
  have h2 := h.lR
  have h4 := h.fr.size
  have h5 := h.ne
  exact ⟨h1, h2, h.ne, h.ga, h.gR, h.cl.fb hf (by omega) (by omega), h.ec.fb hf (by omega), h.ise, h.rdr.fb hf (Ne.symm h5), h.le, h.sz, ⟨hf.os.trans h.fr.os, hf.tape.trans h.fr.tape, hf.output.trans h.fr.output, Nat.le_trans h.fr.size hf.size, fun k hk g1 g2 => (hf.block k (by omega) g1 (by simp)).trans (h.fr.block k hk g1 g2)⟩, h.et.kept (hf.block _ h.et.lt (by have := h.ga; omega) (by simp)), hP, hs⟩
theorem Rs.number (h : Rs w a R t wr fv q p l) (k : Nat) (hk : k = 2 ∨ k = 8) :
    Calls Tryd.prog 59 #[.int .i64 (k : Int), .pointer (some ⟨w.heap.size, 0, none⟩), .pointer (some ⟨w.heap.size + 2, 0, none⟩)] wr fun e w' => ∃ n fv' q', e = .returned (.int .i64 n) ∧ n ≤ 9223372036854775807 ∧ Rs w a R t w' fv' q' p l ∧ Fr (w.heap.size + 1) (some R) wr w' ∧
      (bad fv → bad fv') ∧ (fv = .nilIface → (numAt t q k = some n ∧ fv' = .nilIface ∧ q' = q + k) ∨ (numAt t q k = none ∧ bad fv')) := by
  have h2 := h.lR
  refine (number_any R w.heap.size (w.heap.size + 2) (w.heap.size + 1) q t k hk fv wr h.cl h.ec h.ise h.rdr h.le h.sz (by omega) (by omega) (by omega)).mono ?_
  rintro e w' ⟨n, fv', q', rfl, k0, k1, k2, k3, k4, k5, k6, k7⟩
  exact ⟨n, fv', q', rfl, k0, h.clo k1 k2 k3 k4 k5, k5, k6, k7⟩
theorem Rs.text (h : Rs w a R t wr fv q p l) :
    Calls Tryd.prog 61 #[.pointer (some ⟨w.heap.size, 0, none⟩), .pointer (some ⟨w.heap.size + 2, 0, none⟩)] wr fun e w' => ∃ x fv' q', e = .returned (.string x) ∧ Rs w a R t w' fv' q' p l ∧ Fr (w.heap.size + 1) (some R) wr w' ∧
      (bad fv → bad fv') ∧ (fv = .nilIface → (textAt t q = some x ∧ fv' = .nilIface ∧ q' = q + 2 + x.size) ∨ (textAt t q = none ∧ bad fv')) := by
  have h2 := h.lR
  refine (text_any R w.heap.size (w.heap.size + 2) (w.heap.size + 1) q t fv wr h.et h.cl h.ec h.ise h.rdr h.le h.sz (by omega) (by omega) (by omega)).mono ?_
  rintro e w' ⟨n, fv', q', rfl, k1, k2, k3, k4, k5, k6, k7⟩
  exact ⟨n, fv', q', rfl, h.clo k1 k2 k3 k4 k5, k5, k6, k7⟩
theorem Rs.keep (h : Rs w a R t wr fv q p l) (v : Value) (hv : isE v) :
    Calls Tryd.prog 58 #[v, .pointer (some ⟨w.heap.size + 1, 0, none⟩)] wr fun e w' => e = .returned (.tuple #[]) ∧ ∃ fv', Rs w a R t w' fv' q p l ∧ Fb (w.heap.size + 1) wr w' ∧ (bad fv → bad fv') ∧ (fv = .nilIface → fv' = v) := by
  refine (keep_any (w.heap.size + 1) v fv wr h.ec hv h.ise).mono ?_
  rintro e w' ⟨rfl, fv', k1, k2, k3, k4, k5⟩
  exact ⟨rfl, fv', h.kp k1 k3 k2, k2, k4, k5⟩
end
theorem bad_iface (ty : TypeId) (x : Value) : bad (.iface ty x) := ⟨ty, x, rfl⟩
theorem isE_cases {v : Value} (h : isE v) : v = .nilIface ∨ bad v := h
/-- What three fields make of a vote. -/
theorem three {t : ByteArray} {q q1 q2 q3 : Nat} {f1 f2 f3 : Value} {s b : Int} {x : ByteArray}
    (h1 : (numAt t q 2 = some s ∧ f1 = .nilIface ∧ q1 = q + 2) ∨ (numAt t q 2 = none ∧ bad f1))
    (b1 : bad f1 → bad f2) (h2 : f1 = .nilIface → (numAt t q1 8 = some b ∧ f2 = .nilIface ∧ q2 = q1 + 8) ∨ (numAt t q1 8 = none ∧ bad f2))
    (b2 : bad f2 → bad f3) (h3 : f2 = .nilIface → (textAt t q2 = some x ∧ f3 = .nilIface ∧ q3 = q2 + 2 + x.size) ∨ (textAt t q2 = none ∧ bad f3)) :
    (voteAt t q = some ⟨s, b, x⟩ ∧ f3 = .nilIface ∧ q3 = q + 12 + x.size) ∨ (voteAt t q = none ∧ bad f3) := by
  unfold voteAt
  rcases h1 with ⟨n1, e1, rfl⟩ | ⟨n1, hb⟩
  · rw [n1]
    rcases h2 e1 with ⟨n2, e2, rfl⟩ | ⟨n2, hb⟩
    · rw [n2]
      rcases h3 e2 with ⟨n3, e3, rfl⟩ | ⟨n3, hb⟩
      · rw [show q + 10 = q + 2 + 8 by omega, n3]
        exact .inl ⟨rfl, e3, by omega⟩
      · rw [show q + 10 = q + 2 + 8 by omega, n3]
        exact .inr ⟨rfl, hb⟩
    · rw [n2]; exact .inr ⟨rfl, b2 hb⟩
  · rw [n1]; exact .inr ⟨rfl, b2 (b1 hb)⟩
/-- So far all is well: l was read, n votes are to come. -/
structure Well (t : ByteArray) (p : Int) (l : List V) (n q : Nat) (last : Int) : Prop where
  p1 : p ≤ 1099511627776
  last0 : -1 ≤ last
  last1 : last < 4096
  below : ∀ y ∈ l, y.s ≤ last
  all : parse t = (rd t p n q last).map fun l' => Acc.mk p (l ++ l')
theorem Well.none_ {t : ByteArray} {p last : Int} {l : List V} {n q : Nat} (h : Well t p l (n + 1) q last) (hv : voteAt t q = none) : parse t = none := by
  rw [h.all, rd, hv]; rfl
theorem Well.not {t : ByteArray} {p last : Int} {l : List V} {n q : Nat} {v : V} (h : Well t p l (n + 1) q last) (hv : voteAt t q = some v) (hm : ¬ may p last v) : parse t = none := by
  rw [h.all, rd, hv]
  simp only
  rw [if_neg hm]; rfl
theorem Well.more {t : ByteArray} {p last : Int} {l : List V} {n q : Nat} {v : V} (h : Well t p l (n + 1) q last) (hv : voteAt t q = some v) (hm : may p last v) : ins v l = l ++ [v] ∧ Well t p (l ++ [v]) n (q + 12 + v.x.size) v.s := by
  have h0 := h.last0
  have hm1 := hm.1
  refine ⟨ins_end fun u hu => by have := h.below u hu; omega, h.p1, by omega, hm.2.1, fun y hy => ?_, ?_⟩
  · rcases List.mem_append.1 hy with hy | hy
    · have := h.below y hy; omega
    · rw [List.mem_singleton.1 hy]; exact Int.le_refl _
  · rw [h.all, rd, hv]
    simp only
    rw [if_pos hm, Option.map_map]
    congr 1
    funext l'
    simp
theorem Well.end_ {t : ByteArray} {p last : Int} {l : List V} {q : Nat} (h : Well t p l 0 q last) : parse t = if q = t.size then some (Acc.mk p l) else none := by
  rw [h.all, rd]
  split <;> simp
end Go.Proofs.YtacbodojbekeeaaDoor
