/-
  A plate and the document's own beside a step that lies in a block of its own.
-/
import Derived.Test.YtodllmgcoclnmaaOwn
import Derived.WalkSmall
namespace Go.Proofs.Ytodllmgcoclnmaa
open Go.RowKit

/-- A step in block k, its kind aside. -/
structure OAt (w : World) (k : Nat) (o : Stp) : Prop where
  c1 : w.cell? ⟨k, 1, none⟩ = some (.int .i64 o.i)
  c2 : w.cell? ⟨k, 2, none⟩ = some (.string o.s)
  c3 : w.cell? ⟨k, 3, none⟩ = some (.int .u64 (o.keep : Int))
theorem OAt.kept {w w' : World} {k : Nat} {o : Stp} (h : OAt w k o) (hk : Kept (· = k) w w') : OAt w' k o :=
  ⟨(hk.cell (k := k) rfl).trans h.c1, (hk.cell (k := k) rfl).trans h.c2, (hk.cell (k := k) rfl).trans h.c3⟩
def PRS (w0 w : World) (b : Nat) (s : St) (r : Nat) (s2 : St) (k : Nat) (o : Stp) : Prop := PRO w0 w b s r s2 (· = k) ∧ OAt w k o
theorem PRS.start {w0 w : World} {b r : Nat} {s s2 : St} (h : PR w0 w b s r s2) (x : Int) (o : Stp) : PRS w0 (w.alloc (.cells #[.int .i64 x, .int .i64 o.i, .string o.s, .int .u64 (o.keep : Int)] 35)) b s r s2 w.heap.size o := by
  refine ⟨h.also ((Below.refl _ _).alloc (Nat.le_refl _) _) (fun k hk => by subst hk; simp), ?_⟩
  have hc : ∀ j (v : Value), #[Value.int .i64 x, .int .i64 o.i, .string o.s, .int .u64 (o.keep : Int)][j]? = some v → (w.alloc (.cells #[.int .i64 x, .int .i64 o.i, .string o.s, .int .u64 (o.keep : Int)] 35)).cell? ⟨w.heap.size, j, none⟩ = some v := fun j v hj => by
    rw [cell_of_row _ _ _ _ _ _ (heap_alloc_new w _)]; exact hj
  exact ⟨hc 1 _ rfl, hc 2 _ rfl, hc 3 _ rfl⟩
/-- A call that turns nothing, in a region that only reads. -/
theorem calls_drawn {P : Program} {f : FuncId} {args : Array Value} {w : World} {n : Nat} {v : Value} (h : Calls P f args (w.drewN n) fun e w' => e = .returned v ∧ w.drewN n = w') : Calls P f args (w.drewN n) fun e w' => e = .returned v ∧ ∃ m, w' = w.drewN m := by
  refine h.mono fun e w' ⟨he, hw⟩ => ⟨he, n, ?_⟩
  rw [hw]
theorem PR.drewN {w0 w : World} {b r : Nat} {s s2 : St} (h : PR w0 w b s r s2) (n : Nat) : PR w0 (w.drewN n) b s r s2 := h.below (below_drewN (Below.refl _ _) n)
theorem PIn.drewN {w0 w : World} {b : Nat} {s : St} (h : PIn w0 w b s) (n : Nat) : PIn w0 (w.drewN n) b s := h.below (below_drewN (Below.refl _ _) n)
theorem pr_size {w0 w : World} {b r : Nat} {s s2 : St} (h : PR w0 w b s r s2) :
    Calls Try.prog 11 #[.pointer (some ⟨b, 0, none⟩)] w fun e w' => e = .returned (.int .i64 (s.is.length : Int)) ∧ w = w' := by
  obtain ⟨F, hF, -⟩ := h.goP
  exact size_any b s F w hF
section
variable {w0 w : World} {b r k : Nat} {s s2 : St} {o : Stp}
theorem PRS.below {w' : World} (h : PRS w0 w b s r s2 k o) (hb : Below w.heap.size w w') : PRS w0 w' b s r s2 k o :=
  ⟨h.1.below hb, h.2.kept (Kept.of_below hb (fun _ hj => (h.1.own hj).1))⟩
theorem PRS.drewN (h : PRS w0 w b s r s2 k o) (n : Nat) : PRS w0 (w.drewN n) b s r s2 k o := h.below (below_drewN (Below.refl _ _) n)
theorem PRS.step {w' : World} {s' s2' : St} (h : PRS w0 w b s r s2 k o) (k1 : PRO w0 w' b s' r s2' (· = k) ∧ Kept (· = k) w w') : PRS w0 w' b s' r s2' k o := ⟨k1.1, h.2.kept k1.2⟩
end
end Go.Proofs.Ytodllmgcoclnmaa
