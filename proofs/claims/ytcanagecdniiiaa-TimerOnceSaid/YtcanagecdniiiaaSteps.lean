/-
  Lists of steps, and of alarms, in memory; new timers beside the document's own.
-/
import Derived.Test.YtcanagecdniiiaaDoes
namespace Go.Proofs.Ytcanagecdniiiaa
open Go.RowKit

/-- The step o lies at the place p of block b. -/
structure SAt (w : World) (b p : Nat) (o : Stp) : Prop where
  c0 : w.cell? ⟨b, p, none⟩ = some (.int .i64 o.k)
  c1 : w.cell? ⟨b, p + 1, none⟩ = some (.int .i64 o.a.n)
  c2 : w.cell? ⟨b, p + 2, none⟩ = some (.int .i64 o.a.a)
  c3 : w.cell? ⟨b, p + 3, none⟩ = some (.int .i64 o.a.t)
  wn : i64 o.a.n
  wt : i64 o.a.t
theorem SAt.lt {w : World} {b p : Nat} {o : Stp} (h : SAt w b p o) : b < w.heap.size := World.block_lt_of_cell? w _ h.c0
theorem SAt.kept {w w' : World} {b p : Nat} {o : Stp} (h : SAt w b p o) (hx : ∀ o, w'.cell? ⟨b, o, none⟩ = w.cell? ⟨b, o, none⟩) : SAt w' b p o :=
  ⟨(hx _).trans h.c0, (hx _).trans h.c1, (hx _).trans h.c2, (hx _).trans h.c3, h.wn, h.wt⟩
/-- A list of n steps, at A. -/
def Steps (w : World) (A : Option Addr) (n : Nat) (st : Nat → Stp) : Prop := ∀ i, i < n → ∃ b off, A = some ⟨b, off, none⟩ ∧ SAt w b (off + i * 4) (st i)
/-- A list of n alarms, at A. -/
def Als (w : World) (A : Option Addr) (n : Nat) (al : Nat → Al) : Prop := ∀ i, i < n → ∃ b off, A = some ⟨b, off, none⟩ ∧ At w b (off + i * 3) (al i)
theorem At.kept' {w w' : World} {b p : Nat} {o : Al} (h : At w b p o) (hx : ∀ o, w'.cell? ⟨b, o, none⟩ = w.cell? ⟨b, o, none⟩) : At w' b p o :=
  ⟨(hx _).trans h.c0, (hx _).trans h.c1, (hx _).trans h.c2⟩

/-- A step at timers and the document's own that have the same alarms. -/
theorem does_same (B1 mb B2 : Nat) (l : List Al) (o : Stp) (w : World) (hT : Both w B1 mb l B2 l) (hn : i64 o.a.n) (ht : i64 o.a.t) :
    Calls Try.prog 9 #[.pointer (some ⟨B1, 0, none⟩), .pointer (some ⟨B2, 0, none⟩), o.val] w fun e w' => e = .returned (.bool true) ∧ Both w' B1 mb (nxt l o) B2 (nxt l o) ∧ G2 mb B2 w w' :=
  (does_any B1 mb B2 l l o w hT hn ht).mono fun _ _ ⟨_, he, hb, h1, h2⟩ => ⟨by rw [he, hb rfl], h1, h2⟩

/-- New timers of the document's beside timers. -/
theorem Both.start {w : World} {B1 mb : Nat} {l : List Al} (h : Tms w B1 mb l) : Both (w.alloc (.cells #[.slice none 0 0] 28)) B1 mb l w.heap.size [] :=
  ⟨h.below ((Below.refl _ _).alloc (Nat.le_refl _) _), Rf.start w, Good.nil, Nat.ne_of_lt h.lt⟩
end Go.Proofs.Ytcanagecdniiiaa
