/-
  A map, and the document's own, beside a row of ranges, and things in blocks of their own.
-/
import Derived.Test.YtlffgfkcgldekaaApartLaw
namespace Go.Proofs.Ytlffgfkcgldekaa
open Go.RowKit

@[reducible] def Own (v : Value) (X : List (Nat × Obj)) (k : Nat) : Prop := v.ownBlock = some k ∨ ∃ x ∈ X, k = x.1
def BR (w W : World) (b r : Nat) (s s2 : St) (base : Nat) (v : Value) (l : List Rg) (X : List (Nat × Obj)) : Prop :=
  PRO w W b s r s2 (Own v X) ∧ Owns W base v l ∧ ∀ x ∈ X, W.heap[x.1]? = some x.2
section
variable {w W : World} {b r base : Nat} {s s2 : St} {v : Value} {l : List Rg} {X : List (Nat × Obj)}
theorem BR.step {W' : World} {s' s2' : St} (h : BR w W b r s s2 base v l X) (hP : PRO w W' b s' r s2' (Own v X)) (hk : Kept (Own v X) W W') : BR w W' b r s' s2' base v l X :=
  ⟨hP, hk.Owns h.2.1 (fun _ hg => .inl hg), fun x hx => (hk x.1 (.inr ⟨x, hx, rfl⟩)).trans (h.2.2 x hx)⟩
theorem BR.below {W' : World} (h : BR w W b r s s2 base v l X) (hb : Below W.heap.size W W') : BR w W' b r s s2 base v l X :=
  h.step (h.1.below hb) (Kept.of_below hb (fun _ hk => (h.1.own hk).1))
theorem BR.bel (h : BR w W b r s s2 base v l X) : Below w.heap.size w W := h.1.bel
theorem BR.add (h : BR w W b r s s2 base v l X) (o : Obj) : BR w (W.alloc o) b r s s2 base v l ((W.heap.size, o) :: X) := by
  have hb : Below W.heap.size W (W.alloc o) := (Below.refl _ _).alloc (Nat.le_refl _) _
  have h1 := h.below hb
  refine ⟨h.1.turn (Keeps.of_below hb) (fun k hk => ?_) (fun k hk => ?_), h1.2.1, fun y hy => ?_⟩
  · rcases hk with hk | ⟨y, hy, rfl⟩
    · exact .inl (.inl hk)
    · rcases List.mem_cons.1 hy with rfl | hy
      · exact .inr (Nat.le_refl _)
      · exact .inl (.inr ⟨y, hy, rfl⟩)
  · rcases hk with hk | ⟨y, hy, rfl⟩
    · have := (h.1.own (.inl hk)).1; simp; omega
    · rcases List.mem_cons.1 hy with rfl | hy
      · simp
      · have := (h.1.own (.inr ⟨y, hy, rfl⟩)).1; simp; omega
  · rcases List.mem_cons.1 hy with rfl | hy
    · exact heap_alloc_new W o
    · exact h1.2.2 y hy
theorem BR.drop (h : BR w W b r s s2 base v l X) : BR w W b r s s2 base v l [] :=
  ⟨h.1.turn (Keeps.refl _ _) (fun k hk => by rcases hk with hk | ⟨x, hx, _⟩; (exact .inl (.inl hk)); (cases hx)) (fun k hk => by rcases hk with hk | ⟨x, hx, _⟩; (exact (h.1.own (.inl hk)).1); (cases hx)), h.2.1, fun x hx => by cases hx⟩
theorem BR.grow {W' : World} {v' : Value} {l' : List Rg} (h : BR w W b r s s2 base v l []) (ho : Owns W' base v' l') (hg : W.grownBy W' v.ownBlock) (hv : ∀ k, v'.ownBlock = some k → v.ownBlock = some k ∨ W.heap.size ≤ k) : BR w W' b r s s2 base v' l' [] := by
  refine ⟨h.1.turn ((Keeps.refl _ _).grown hg (fun g hg => .inl (.inl hg))) (fun k hk => ?_) (fun k hk => ?_), ho, fun x hx => by cases hx⟩
  · rcases hk with hk | ⟨x, hx, _⟩
    · rcases hv k hk with h1 | h1
      · exact .inl (.inl h1)
      · exact .inr h1
    · cases hx
  · rcases hk with hk | ⟨x, hx, _⟩
    · exact (ho.lt hk).2
    · cases hx
theorem BR.lit (h : PRO w W b s r s2 (fun _ => False)) : BR w (W.alloc (.cells #[] 30)) b r s s2 w.heap.size (.slice (some ⟨W.heap.size, 0, none⟩) 0 0) [] [] := by
  refine ⟨h.turn (Keeps.of_below ((Below.refl _ _).alloc (Nat.le_refl _) _)) (fun k hk => ?_) (fun k hk => ?_), Owns.lit h.bel.size, fun x hx => by cases hx⟩
  · rcases hk with hk | ⟨x, hx, _⟩
    · have e : W.heap.size = k := by simpa [Value.ownBlock] using hk
      subst e; exact .inr (Nat.le_refl _)
    · cases hx
  · rcases hk with hk | ⟨x, hx, _⟩
    · have e : W.heap.size = k := by simpa [Value.ownBlock] using hk
      subst e; simp
    · cases hx
/-- The cells of what lies beside. -/
theorem BR.cell (h : BR w W b r s s2 base v l X) {n : Nat} {cs : Array Value} {t : TypeId} (hx : (n, Obj.cells cs t (0, 0)) ∈ X) (j : Nat) : W.cell? ⟨n, j, none⟩ = cs[j]? := cell_of_row _ _ _ _ _ _ (h.2.2 _ hx)
/-- A call that lies in a block of its own; a range. -/
@[reducible] def SB (n : Nat) (k on f t : Int) : Nat × Obj := (n, .cells #[.int .i64 k, .int .i64 on, .int .i64 f, .int .i64 t] 32)
@[reducible] def GB (n : Nat) (f t : Int) : Nat × Obj := (n, .cells #[.int .i64 f, .int .i64 t] 30)
theorem BR.stp (h : BR w W b r s s2 base v l X) {n : Nat} {k on f t : Int} (hx : SB n k on f t ∈ X) : W.cell? ⟨n, 1, none⟩ = some (.int .i64 on) ∧ W.cell? ⟨n, 2, none⟩ = some (.int .i64 f) ∧ W.cell? ⟨n, 3, none⟩ = some (.int .i64 t) := ⟨h.cell hx 1, h.cell hx 2, h.cell hx 3⟩
theorem BR.got {gl m dd : Nat} (h : BR w W b r s s2 base (.slice (some ⟨gl, 0, none⟩) m dd) l X) {q : Nat} {x : Rg} (hx : l[q]? = some x) : W.cell? ⟨gl, q * 2, none⟩ = some (.int .i64 x.f) ∧ W.cell? ⟨gl, q * 2 + 1, none⟩ = some (.int .i64 x.t) := ⟨(h.2.1.lst.at_ q x hx).c0, (h.2.1.lst.at_ q x hx).c1⟩
theorem BR.rng (h : BR w W b r s s2 base v l X) {n : Nat} {f t : Int} (hx : GB n f t ∈ X) : W.cell? ⟨n, 0, none⟩ = some (.int .i64 f) ∧ W.cell? ⟨n, 1, none⟩ = some (.int .i64 t) := ⟨h.cell hx 0, h.cell hx 1⟩
theorem bp_alloc (h : BR w W b r s s2 base v l X) (hG : Good s) (k : Int) :
    Calls Try.prog 13 #[.pointer (some ⟨b, 0, none⟩), .int .i64 k] W fun e w' => e = .returned (.tuple #[.agg #[.int .i64 (allocR s k).f, .int .i64 (allocR s k).t], .int .i64 (allocE s k)]) ∧ BR w w' b r (allocS s k) s2 base v l X :=
  (po_alloc h.1 hG k).mono fun _ _ ⟨a, b, c⟩ => ⟨a, h.step b c⟩
theorem br_alloc (h : BR w W b r s s2 base v l X) (hn : s2.n ≤ 4096) (k : Int) :
    Calls Try.prog 14 #[.pointer (some ⟨r, 0, none⟩), .int .i64 k] W fun e w' => e = .returned (.tuple #[.agg #[.int .i64 (allocR s2 k).f, .int .i64 (allocR s2 k).t], .int .i64 (allocE s2 k)]) ∧ BR w w' b r s (allocS s2 k) base v l X :=
  (ro_alloc h.1 hn k).mono fun _ _ ⟨a, b, c⟩ => ⟨a, h.step b c⟩
theorem bp_take (h : BR w W b r s s2 base v l X) (hG : Good s) (q : Rg) :
    Calls Try.prog 15 #[.pointer (some ⟨b, 0, none⟩), .agg #[.int .i64 q.f, .int .i64 q.t]] W fun e w' => e = .returned (.int .i64 (takeE s q)) ∧ BR w w' b r (takeS s q) s2 base v l X :=
  (po_take h.1 hG q).mono fun _ _ ⟨a, b, c⟩ => ⟨a, h.step b c⟩
theorem br_take (h : BR w W b r s s2 base v l X) (hn : s2.n ≤ 4096) (q : Rg) :
    Calls Try.prog 16 #[.pointer (some ⟨r, 0, none⟩), .agg #[.int .i64 q.f, .int .i64 q.t]] W fun e w' => e = .returned (.int .i64 (takeE s2 q)) ∧ BR w w' b r s (takeS s2 q) base v l X :=
  (ro_take h.1 hn q).mono fun _ _ ⟨a, b, c⟩ => ⟨a, h.step b c⟩
theorem bp_give (h : BR w W b r s s2 base v l X) (hG : Good s) (q : Rg) :
    Calls Try.prog 17 #[.pointer (some ⟨b, 0, none⟩), .agg #[.int .i64 q.f, .int .i64 q.t]] W fun e w' => e = .returned (.int .i64 (giveE s q)) ∧ BR w w' b r (giveS s q) s2 base v l X :=
  (po_give h.1 hG q).mono fun _ _ ⟨a, b, c⟩ => ⟨a, h.step b c⟩
theorem br_give (h : BR w W b r s s2 base v l X) (hn : s2.n ≤ 4096) (q : Rg) :
    Calls Try.prog 18 #[.pointer (some ⟨r, 0, none⟩), .agg #[.int .i64 q.f, .int .i64 q.t]] W fun e w' => e = .returned (.int .i64 (giveE s2 q)) ∧ BR w w' b r s (giveS s2 q) base v l X :=
  (ro_give h.1 hn q).mono fun _ _ ⟨a, b, c⟩ => ⟨a, h.step b c⟩
theorem bp_list (h : BR w W b r s s2 base v l X) (hG : Good s)  : Calls Try.prog 20 #[.pointer (some ⟨b, 0, none⟩)] W fun e w' => RowOf W w' (runs s) e ∧ Below W.heap.size W w' := po_list h.1 hG
theorem br_list (h : BR w W b r s s2 base v l X) (hn : s2.n ≤ 4096)  : Calls Try.prog 21 #[.pointer (some ⟨r, 0, none⟩)] W fun e w' => RowOf W w' (runs s2) e ∧ Below W.heap.size W w' := ro_list h.1 hn
theorem bp_free (h : BR w W b r s s2 base v l X) (hG : Good s)  : Calls Try.prog 11 #[.pointer (some ⟨b, 0, none⟩)] W fun e w' => e = .returned (.int .i64 (cnt s.p s.n)) ∧ Below W.heap.size W w' := po_free h.1 hG
theorem br_free (h : BR w W b r s s2 base v l X) (hn : s2.n ≤ 4096)  : Calls Try.prog 12 #[.pointer (some ⟨r, 0, none⟩)] W fun e w' => e = .returned (.int .i64 (cnt s2.p s2.n)) ∧ W = w' := ro_free h.1 hn
theorem bp_is (h : BR w W b r s s2 base v l X) (hG : Good s) (i : Int) : Calls Try.prog 22 #[.pointer (some ⟨b, 0, none⟩), .int .i64 i] W fun e w' => e = .returned (.bool (s.p i)) ∧ Below W.heap.size W w' := po_is h.1 hG i
theorem br_is (h : BR w W b r s s2 base v l X) (hG : Good s2) (i : Int) : Calls Try.prog 23 #[.pointer (some ⟨r, 0, none⟩), .int .i64 i] W fun e w' => e = .returned (.bool (s2.p i)) ∧ W = w' := ro_is h.1 hG i
end
end Go.Proofs.Ytlffgfkcgldekaa
