/-
  A map beside a row of ranges, and ranges in blocks of their own.
-/
import Derived.Test.YtlffgfkcgldekaaStep
namespace Go.Proofs.Ytlffgfkcgldekaa
open Go.RowKit

theorem PIO.startO {w0 wb w1 : World} {b : Nat} {s : St} {O : Nat → Prop} (hw : Below w0.heap.size w0 wb) (h : Goes (fun _ => False) wb w1 (PB w1 b s)) (hO : ∀ k, O k → w0.heap.size ≤ k ∧ k < wb.heap.size) : PIO w0 w1 b s O ∧ Kept O wb w1 := by
  obtain ⟨F, h1, h2, h3⟩ := h
  refine ⟨⟨F, h1, fun k hk => by rcases h2 k hk with h | h; (exact h.elim); (exact Nat.le_trans hw.size h), h3.below hw hw.size (fun _ h => h.elim), fun k hk => ⟨fun hf => ?_, Nat.lt_of_lt_of_le (hO k hk).2 h3.size, (hO k hk).1⟩⟩, fun k hk => h3.block k (hO k hk).2 (fun h => h)⟩
  rcases h2 k hf with h | h
  · exact h
  · have := (hO k hk).2; omega
theorem Rb.kept {O : Nat → Prop} {w w' : World} {n : Nat} {x : Rg} (h : Rb w n x) (hk : Kept O w w') (hn : O n) : Rb w' n x := (hk n hn).trans h

/-- A map beside a row of ranges, and ranges in blocks of their own. -/
def BK (w W : World) (b : Nat) (s : St) (base : Nat) (v : Value) (l : List Rg) (X : List (Nat × Rg)) : Prop :=
  PIO w W b s (fun k => v.ownBlock = some k ∨ ∃ x ∈ X, k = x.1) ∧ Owns W base v l ∧ ∀ x ∈ X, Rb W x.1 x.2
section
variable {w W : World} {b base : Nat} {s : St} {v : Value} {l : List Rg} {X : List (Nat × Rg)}
theorem BK.step {W' : World} {s' : St} (h : BK w W b s base v l X) (hP : PIO w W' b s' (fun k => v.ownBlock = some k ∨ ∃ x ∈ X, k = x.1)) (hk : Kept (fun k => v.ownBlock = some k ∨ ∃ x ∈ X, k = x.1) W W') : BK w W' b s' base v l X :=
  ⟨hP, hk.Owns h.2.1 (fun _ hg => .inl hg), fun x hx => (h.2.2 x hx).kept hk (.inr ⟨x, hx, rfl⟩)⟩
theorem BK.below {W' : World} (h : BK w W b s base v l X) (hb : Below W.heap.size W W') : BK w W' b s base v l X :=
  h.step (h.1.below hb) (Kept.of_below hb (fun _ hk => (h.1.own hk).1))
theorem BK.add (h : BK w W b s base v l X) (x : Rg) : BK w (W.alloc (.cells #[.int .i64 x.f, .int .i64 x.t] 30)) b s base v l ((W.heap.size, x) :: X) := by
  have hb : Below W.heap.size W (W.alloc (.cells #[.int .i64 x.f, .int .i64 x.t] 30)) := (Below.refl _ _).alloc (Nat.le_refl _) _
  have h1 := h.below hb
  refine ⟨h.1.turn (Keeps.of_below hb) (fun k hk => ?_) (fun k hk => ?_), h1.2.1, fun y hy => ?_⟩
  · rcases hk with hk | ⟨y, hy, rfl⟩
    · exact .inl (.inl hk)
    · rcases List.mem_cons.1 hy with rfl | hy
      · exact .inr (Nat.le_refl _)
      · exact .inl (.inr ⟨y, hy, rfl⟩)
  · rcases hk with hk | ⟨y, hy, rfl⟩
    · have := (h.1.own (.inl hk)).1; simp; omega
    · rcases List.mem_cons.1 hy with rfl | hy
      · simp
      · have := (h.1.own (.inr ⟨y, hy, rfl⟩)).1; simp; omega
  · rcases List.mem_cons.1 hy with rfl | hy
    · exact Rb.new W x
    · exact h1.2.2 y hy
/-- Behind a List. -/
theorem BK.start {W' : World} {n : Nat} {r : Rg} (h : PIO w W b s (fun k => k = n)) (hr : Rb W n r) (hb : Below W.heap.size W W') (ho : Owns W' W.heap.size v l) : BK w W' b s W.heap.size v l [(n, r)] := by
  refine ⟨h.turn (Keeps.of_below hb) (fun k hk => ?_) (fun k hk => ?_), ho, fun x hx => ?_⟩
  · rcases hk with hk | ⟨x, hx, rfl⟩
    · exact .inr (ho.lt hk).1
    · simp at hx; subst hx; exact .inl rfl
  · rcases hk with hk | ⟨x, hx, rfl⟩
    · exact (ho.lt hk).2
    · simp at hx; subst hx; exact Nat.lt_of_lt_of_le hr.lt hb.size
  · simp at hx; subst hx; exact hr.below hb
theorem BK.bel (h : BK w W b s base v l X) : Below w.heap.size w W := h.1.bel
theorem bk_take (h : BK w W b s base v l X) (hG : Good s) (q : Rg) {e : Int} {s' : St} (he : takeE s q = e) (hs : takeS s q = s') :
    Hid (Calls Try.prog 15 #[.pointer (some ⟨b, 0, none⟩), .agg #[.int .i64 q.f, .int .i64 q.t]] W fun r w' => r = .returned (.int .i64 e) ∧ BK w w' b s' base v l X) := by
  subst he hs; exact (io_take h.1 hG q).mono fun _ _ ⟨a, b, c⟩ => ⟨a, h.step b c⟩
theorem bk_give (h : BK w W b s base v l X) (hG : Good s) (q : Rg) {e : Int} {s' : St} (he : giveE s q = e) (hs : giveS s q = s') :
    Hid (Calls Try.prog 17 #[.pointer (some ⟨b, 0, none⟩), .agg #[.int .i64 q.f, .int .i64 q.t]] W fun r w' => r = .returned (.int .i64 e) ∧ BK w w' b s' base v l X) := by
  subst he hs; exact (io_give h.1 hG q).mono fun _ _ ⟨a, b, c⟩ => ⟨a, h.step b c⟩
theorem bk_alloc (h : BK w W b s base v l X) (hG : Good s) (k : Int) {e : Int} {q : Rg} {s' : St} (he : allocE s k = e) (hq : allocR s k = q) (hs : allocS s k = s') :
    Hid (Calls Try.prog 13 #[.pointer (some ⟨b, 0, none⟩), .int .i64 k] W fun r w' => r = .returned (.tuple #[.agg #[.int .i64 q.f, .int .i64 q.t], .int .i64 e]) ∧ BK w w' b s' base v l X) := by
  subst he hq hs; exact (io_alloc h.1 hG k).mono fun _ _ ⟨a, b, c⟩ => ⟨a, h.step b c⟩
/-- The list at the end is the list that was. -/
theorem bk_list (h : BK w W b s base v (runs s) X) (hG : Good s) :
    Hid (Calls Try.prog 20 #[.pointer (some ⟨b, 0, none⟩)] W fun r w' => RowOf W w' (runs s) r ∧ BK w w' b s base v (runs s) X) :=
  (io_list h.1 hG).mono fun _ _ ⟨a, b⟩ => ⟨a, h.below b⟩
theorem takeS_no {q : Rg} (h : takeE s q ≠ 0) : takeS s q = s := by unfold takeS; rw [if_neg h]
theorem takeF_good (hG : Good s) {q : Rg} (h : takeE s q = 0) : Good (set s q false) := hG.set (takeE_zero.1 h).1 _
theorem BK.drop (h : BK w W b s base v l X) : BK w W b s base v l [] :=
  ⟨h.1.turn (Keeps.refl _ _) (fun k hk => by rcases hk with hk | ⟨x, hx, _⟩; (exact .inl (.inl hk)); (cases hx)) (fun k hk => by rcases hk with hk | ⟨x, hx, _⟩; (exact (h.1.own (.inl hk)).1); (cases hx)), h.2.1, fun x hx => by cases hx⟩
/-- More ranges behind the row. -/
theorem BK.grow {W' : World} {v' : Value} {l' : List Rg} (h : BK w W b s base v l []) (ho : Owns W' base v' l') (hg : W.grownBy W' v.ownBlock) (hv : ∀ k, v'.ownBlock = some k → v.ownBlock = some k ∨ W.heap.size ≤ k) : BK w W' b s base v' l' [] := by
  refine ⟨h.1.turn ((Keeps.refl _ _).grown hg (fun g hg => .inl (.inl hg))) (fun k hk => ?_) (fun k hk => ?_), ho, fun x hx => by cases hx⟩
  · rcases hk with hk | ⟨x, hx, _⟩
    · rcases hv k hk with h1 | h1
      · exact .inl (.inl h1)
      · exact .inr h1
    · cases hx
  · rcases hk with hk | ⟨x, hx, _⟩
    · exact (ho.lt hk).2
    · cases hx
/-- A new row in the place of the old one. -/
theorem BK.other {W' : World} {v' : Value} {l' : List Rg} (h : BK w W b s base v l []) (ho : Owns W' base v' l') (hb : Below W.heap.size W W') (hv : ∀ k, v'.ownBlock = some k → W.heap.size ≤ k) : BK w W' b s base v' l' [] := by
  refine ⟨h.1.turn (Keeps.of_below hb) (fun k hk => ?_) (fun k hk => ?_), ho, fun x hx => by cases hx⟩
  · rcases hk with hk | ⟨x, hx, _⟩
    · exact .inr (hv k hk)
    · cases hx
  · rcases hk with hk | ⟨x, hx, _⟩
    · exact (ho.lt hk).2
    · cases hx
end
end Go.Proofs.Ytlffgfkcgldekaa
