/-
  Lists of calls, as cells.
-/
import Derived.Test.YtlffgfkcgldekaaOwn
namespace Go.Proofs.Ytlffgfkcgldekaa
open Go.RowKit

/-- A call: its kind, its number, its range. -/
structure Stp where
  k : Int
  n : Int
  r : Rg
@[reducible] def Stp.cells (o : Stp) : Array Value := #[.int .i64 o.k, .int .i64 o.n, .int .i64 o.r.f, .int .i64 o.r.t]
structure SAt (w : World) (b p : Nat) (o : Stp) : Prop where
  c0 : w.cell? ⟨b, p, none⟩ = some (.int .i64 o.k)
  c1 : w.cell? ⟨b, p + 1, none⟩ = some (.int .i64 o.n)
  c2 : w.cell? ⟨b, p + 2, none⟩ = some (.int .i64 o.r.f)
  c3 : w.cell? ⟨b, p + 3, none⟩ = some (.int .i64 o.r.t)
theorem SAt.lt {w : World} {b p : Nat} {o : Stp} (h : SAt w b p o) : b < w.heap.size := World.block_lt_of_cell? w _ h.c0
theorem SAt.below {w w' : World} {b p N : Nat} {o : Stp} (h : SAt w b p o) (hb : Below N w w') (hN : b < N) : SAt w' b p o :=
  ⟨(hb.cell (p := ⟨b, p, none⟩) hN).trans h.c0, (hb.cell (p := ⟨b, p + 1, none⟩) hN).trans h.c1, (hb.cell (p := ⟨b, p + 2, none⟩) hN).trans h.c2, (hb.cell (p := ⟨b, p + 3, none⟩) hN).trans h.c3⟩
/-- A list of n calls, at A. -/
def Steps (w : World) (A : Option Addr) (n : Nat) (st : Nat → Stp) : Prop := ∀ i, i < n → ∃ b off, A = some ⟨b, off, none⟩ ∧ SAt w b (off + i * 4) (st i)
/-- What a call leaves of a map, its answer aside. -/
noncomputable def stepS (s : St) (o : Stp) : St := if o.k = 0 then allocS s o.n else if o.k = 1 then takeS s o.r else if o.k = 2 then giveS s o.r else s
theorem allocS_n (s : St) (k : Int) : (allocS s k).n = s.n := by
  unfold allocS; split
  · rfl
  · split <;> rfl
theorem takeS_n (s : St) (r : Rg) : (takeS s r).n = s.n := by unfold takeS; split <;> rfl
theorem giveS_n (s : St) (r : Rg) : (giveS s r).n = s.n := by unfold giveS; split <;> rfl
theorem At.below {w w' : World} {g o : Nat} {m : Rg} (h : At w g o m) (hb : Below w.heap.size w w') : At w' g o m := by
  have hl := World.block_lt_of_cell? w _ h.c0
  exact ⟨(hb.cell (p := ⟨g, o, none⟩) hl).trans h.c0, (hb.cell (p := ⟨g, o + 1, none⟩) hl).trans h.c1⟩
/-- A slice at A reads as the ranges l. -/
def Rd (w : World) (A : Option Addr) (l : List Rg) : Prop := ∀ i x, l[i]? = some x → ∃ g, A = some ⟨g, 0, none⟩ ∧ At w g (i * 2) x
theorem Rd.below {w w' : World} {A : Option Addr} {l : List Rg} (h : Rd w A l) (hb : Below w.heap.size w w') : Rd w' A l := fun i x hx => by
  obtain ⟨g, hA, ha⟩ := h i x hx
  exact ⟨g, hA, ha.below hb⟩
theorem Owns.rd {w : World} {base : Nat} {v : Value} {l : List Rg} (h : Owns w base v l) : ∃ A c, v = .slice A l.length c ∧ l.length ≤ c ∧ Rd w A l := h.read
end Go.Proofs.Ytlffgfkcgldekaa
