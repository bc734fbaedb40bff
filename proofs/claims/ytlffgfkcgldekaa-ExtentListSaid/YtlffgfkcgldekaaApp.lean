/-
  append to a slice that has no room, or that is the call's own: what is appended, and where it lies then; at a step of a region that draws, and at a walk's step.
-/
import Derived.Test.YtlffgfkcgldekaaSearch
namespace Go.Proofs.Ytlffgfkcgldekaa
open Go.RowKit

/-- The value x has the ranges m, somewhere in memory. -/
def Srcs (w : World) (x : Value) (m : List Rg) : Prop := (x = .slice none 0 0 ∧ m = []) ∨ ∃ g o c, x = .slice (some ⟨g, o, none⟩) m.length c ∧ (m ≠ [] → g < w.heap.size) ∧ ∀ j u, (flat m)[j]? = some u → w.cell? ((⟨g, o, none⟩ : Addr).add j) = some u
theorem Srcs.below {w w' : World} {x : Value} {m : List Rg} (h : Srcs w x m) (hb : Below w.heap.size w w') : Srcs w' x m := by
  rcases h with h | ⟨g, o, c, h1, h2, h3⟩
  · exact .inl h
  · refine .inr ⟨g, o, c, h1, fun e => Nat.lt_of_lt_of_le (h2 e) hb.size, fun j u hu => ?_⟩
    have hne : m ≠ [] := fun e => by subst e; simp [flat] at hu
    have := h3 j u hu
    rw [Go.WideShapes.add_plain] at this ⊢
    rw [hb.cell (p := ⟨g, o + j, none⟩) (h2 hne)]; exact this
theorem Srcs.block {w w' : World} {x : Value} {m : List Rg} (h : Srcs w x m) (hb : ∀ g, m ≠ [] → x.ownBlock = some g → w'.heap[g]? = w.heap[g]?) (hs : w.heap.size ≤ w'.heap.size) : Srcs w' x m := by
  rcases h with h | ⟨g, o, c, rfl, h2, h3⟩
  · exact .inl h
  · refine .inr ⟨g, o, c, rfl, fun e => Nat.lt_of_lt_of_le (h2 e) hs, fun j u hu => ?_⟩
    have hne : m ≠ [] := fun e => by subst e; simp [flat] at hu
    have := h3 j u hu
    rw [Go.WideShapes.add_plain] at this ⊢
    rw [World.cell?_of_block (w := w) (a := ⟨g, o + j, none⟩) (hb g hne rfl)]; exact this
/-- A row of ranges from its k-th place on. -/
theorem Lst.srcs {w : World} {g cap c : Nat} {l : List Rg} (h : Lst w g cap l) (k : Nat) : Srcs w (.slice (some ⟨g, k * 2, none⟩) (l.length - k) c) (l.drop k) :=
  .inr ⟨g, k * 2, c, by rw [List.length_drop], fun _ => h.lt, h.news k⟩
theorem Lst.srcs0 {w : World} {g cap c : Nat} {l : List Rg} (h : Lst w g cap l) : Srcs w (.slice (some ⟨g, 0, none⟩) l.length c) l := by
  have := h.srcs (c := c) 0
  simpa using this
theorem srcs_empty (w : World) (g o c : Nat) : Srcs w (.slice (some ⟨g, o, none⟩) 0 c) [] := .inr ⟨g, o, c, rfl, fun e => absurd rfl e, fun j u hu => by simp [flat] at hu⟩
theorem Owns.srcs {w : World} {base : Nat} {v : Value} {l : List Rg} (h : Owns w base v l) : Srcs w v l := by
  rcases h.form with ⟨rfl, rfl⟩ | ⟨g, cap, rfl, -, hl⟩
  · exact .inl ⟨rfl, rfl⟩
  · exact hl.srcs0
theorem Srcs.src {w : World} {x : Value} (h : Srcs w x []) : Src Try.prog 2 28 x 0 [] w := by
  rcases h with ⟨rfl, -⟩ | ⟨g, o, c, rfl, -, -⟩
  · exact Src.ofNil w Try.underlying28 0
  · exact Src.ofSlice w Try.underlying28 _ 0 c [] (by simp) (by simp) (by simp)

/-- A slice that may be appended to, and nothing old is turned: it has no room, or is the call's own. -/
def App (w0 : World) (g : Nat) (w : World) (v : Value) (l : List Rg) : Prop := (v = .slice (some ⟨g, 0, none⟩) l.length l.length ∧ g < w0.heap.size ∧ Lst w g l.length l) ∨ (l ≠ [] ∧ Owns w w0.heap.size v l)
theorem App.form {w0 : World} {g : Nat} {w : World} {v : Value} {l : List Rg} (h : App w0 g w v l) : ∃ g' cap, v = .slice (some ⟨g', 0, none⟩) l.length cap ∧ Lst w g' cap l ∧ (g' = g ∨ w0.heap.size ≤ g') := by
  rcases h with ⟨rfl, -, hl⟩ | ⟨hne, ho⟩
  · exact ⟨g, _, rfl, hl, .inl rfl⟩
  · rcases ho.form with ⟨-, e⟩ | ⟨g', cap, rfl, hb, hl⟩
    · exact absurd e hne
    · exact ⟨g', cap, rfl, hl, .inr hb⟩
theorem App.below {w0 : World} {g : Nat} {w w' : World} {v : Value} {l : List Rg} (h : App w0 g w v l) (hb : Below w.heap.size w w') : App w0 g w' v l := by
  rcases h with ⟨h1, h2, h3⟩ | ⟨h1, h2⟩
  · exact .inl ⟨h1, h2, h3.below hb⟩
  · exact .inr ⟨h1, h2.below hb⟩
theorem run_app {w0 : World} {g : Nat} {w : World} {v : Value} {l : List Rg} (hv : App w0 g w v l) (hw : Below w0.heap.size w0 w) {x : Value} {m : List Rg} (hx : Srcs w x m) (hlen : l.length + m.length ≤ 100000) (ty : TypeId) :
    ∃ g' cap w', (Builtin.append_ #[28, 28] ty #[v, x]).run Try.prog w = .ok (.slice (some ⟨g', 0, none⟩) (l.length + m.length) cap) w' ∧ App w0 g w' (.slice (some ⟨g', 0, none⟩) (l.length + m.length) cap) (l ++ m) ∧ Below w0.heap.size w0 w' := by
  obtain ⟨i0, hi0, hz0, hz1, hz2⟩ := info_parts info_range
  have hmax : l.length + m.length ≤ maxLen := by unfold maxLen; omega
  have key : ∃ v' w', (Builtin.append_ #[28, 28] ty #[v, x]).run Try.prog w = .ok v' w' ∧ App w0 g w' v' (l ++ m) ∧ Below w0.heap.size w0 w' := by
    by_cases hm : m = []
    · subst hm
      obtain ⟨g', cap, rfl, hl, -⟩ := hv.form
      refine ⟨_, w, run_append_nothing (P := Try.prog) w 28 28 ty 30 i0 Try.underlying28 hi0 _ _ _ hl.le x (by rw [hz1]; exact hx.src), by simpa using hv, hw⟩
    · rcases hx with ⟨-, e⟩ | ⟨gx, o, c, rfl, hgx, hcx⟩
      · exact absurd e hm
      · rcases hv with ⟨rfl, hg, hl⟩ | ⟨hne, ho⟩
        · have hmp : 0 < m.length := List.length_pos_iff.2 hm
          obtain ⟨v', w', h1, h2, h3⟩ := run_append_arg_grows (P := Try.prog) w 28 ty 30 i0 _ 2 16 Try.underlying28 hi0 hz0 hz1 hz2 (by rfl) (by omega) ⟨g, 0, none⟩ l.length l.length (flat l) (flat_length l) (by simpa using hl.news 0) ⟨gx, o, none⟩ m.length c (flat m) (flat_length m) hcx (by omega) hmax (by omega)
          refine ⟨v', w', h1, .inr ⟨by simp [hm], ?_⟩, below_grown hw h3 hw.size (by simp)⟩
          unfold Owns
          rw [flat_append, List.length_append]
          refine ⟨h2.1, ?_⟩
          rcases h2.2 with h | ⟨g2, cap, cur, e1, e2, e3⟩
          · exact .inl h
          · exact .inr ⟨g2, cap, cur, e1, Nat.le_trans hw.size e2, e3⟩
        · obtain ⟨v', w', h1, h2, h3, -⟩ := run_append_own (P := Try.prog) w w0.heap.size 28 ty 30 i0 _ 2 16 Try.underlying28 hi0 hz0 hz1 hz2 (by rfl) (by omega) v l.length (flat l) ho ⟨gx, o, none⟩ m.length c (flat m) (flat_length m) hcx (flat_oneCell m) hmax (by omega) hw.size
          refine ⟨v', w', h1, .inr ⟨by simp [hm], ?_⟩, below_grown hw h3 hw.size (fun k hk => (ho.lt hk).1)⟩
          unfold Owns
          rw [flat_append, List.length_append]
          exact h2
  obtain ⟨v', w', h1, h2, h3⟩ := key
  obtain ⟨g', cap, rfl, -, -⟩ := h2.form
  rw [List.length_append] at h1 h2
  exact ⟨g', cap, w', h1, h2, h3⟩

/-- At the operation. -/
theorem wp_app {o : Oper} {a : Act} {K : Act → World → Prop} {Q : Exit → Act → World → Prop} {w : World} (s x : Operand) (ho : o.op = .call { callee := .builtin .append, args := #[s, x], argTypes := #[28, 28] })
    {w0 : World} {g : Nat} {l m : List Rg} (hv : App w0 g w (a.eval s) l) (hw : Below w0.heap.size w0 w) (hx : Srcs w (a.eval x) m) (hlen : l.length + m.length ≤ 100000)
    (h : ∀ g' cap w', App w0 g w' (.slice (some ⟨g', 0, none⟩) (l.length + m.length) cap) (l ++ m) → Below w0.heap.size w0 w' → K (a.put o.dst (.slice (some ⟨g', 0, none⟩) (l.length + m.length) cap)) w') : o.wp Try.prog a w K Q := by
  obtain ⟨g', cap, w', hr, h2, h3⟩ := run_app hv hw hx hlen o.type
  unfold Oper.wp execOp
  simp only [ho, resolve, invoke, builtin, Sem.run_bind, Sem.run_pure, Result.andThen_ok, List.map_toArray, List.map_cons, List.map_nil, hr]
  exact h g' cap w' h2 h3
/-- At a step of a region that draws its order. -/
theorem step_app {ops : Array Oper} {o : Oper} {a : Act} {K : Act → World → Prop} {Q : Exit → Act → World → Prop} {E : Prop} {w : World} (hgd : o.guard = none) (s x : Operand) (ho : o.op = .call { callee := .builtin .append, args := #[s, x], argTypes := #[28, 28] })
    {w0 : World} {g : Nat} {l m : List Rg} (hv : App w0 g w (a.eval s) l) (hw : Below w0.heap.size w0 w) (hx : Srcs w (a.eval x) m) (hlen : l.length + m.length ≤ 100000)
    (h : ∀ g' cap w', App w0 g w' (.slice (some ⟨g', 0, none⟩) (l.length + m.length) cap) (l ++ m) → Below w0.heap.size w0 w' → K (a.put o.dst (.slice (some ⟨g', 0, none⟩) (l.length + m.length) cap)) w') :
    if Region.wanted o (yielded ops a.tmps) = true then Oper.wp Try.prog o a w K Q else E := by
  have hwt : Region.wanted o (yielded ops a.tmps) = true := by simp [Region.wanted, hgd]
  rw [if_pos hwt]
  exact wp_app s x ho hv hw hx hlen h
/-- The same, what comes out under letters. -/
theorem step_app2 {ops : Array Oper} {o : Oper} {a : Act} {K : Act → World → Prop} {Q : Exit → Act → World → Prop} {E : Prop} {w : World} (hgd : o.guard = none) (s x : Operand) (ho : o.op = .call { callee := .builtin .append, args := #[s, x], argTypes := #[28, 28] })
    {w0 : World} {g : Nat} {l m lm : List Rg} {L : Nat} (hv : App w0 g w (a.eval s) l) (hw : Below w0.heap.size w0 w) (hx : Srcs w (a.eval x) m) (hlen : L ≤ 100000) (hlm : l ++ m = lm) (hL : lm.length = L)
    (h : ∀ g' cap w', App w0 g w' (.slice (some ⟨g', 0, none⟩) L cap) lm → Below w0.heap.size w0 w' → K (a.put o.dst (.slice (some ⟨g', 0, none⟩) L cap)) w') :
    if Region.wanted o (yielded ops a.tmps) = true then Oper.wp Try.prog o a w K Q else E := by
  subst hlm
  rw [List.length_append] at hL
  subst hL
  exact step_app hgd s x ho hv hw hx hlen h
theorem wpList_app {ops : Array Oper} {rest : List Oper} {o : Oper} {a : Act} {Q : Exit → Act → World → Prop} {w : World} (hgd : o.guard = none) (s x : Operand) (ho : o.op = .call { callee := .builtin .append, args := #[s, x], argTypes := #[28, 28] })
    {w0 : World} {g : Nat} {l m lm : List Rg} {L : Nat} (hv : App w0 g w (a.eval s) l) (hw : Below w0.heap.size w0 w) (hx : Srcs w (a.eval x) m) (hlen : L ≤ 100000) (hlm : l ++ m = lm) (hL : lm.length = L)
    (h : ∀ g' cap w', App w0 g w' (.slice (some ⟨g', 0, none⟩) L cap) lm → Below w0.heap.size w0 w' → wpList Try.prog ops Q rest (a.put o.dst (.slice (some ⟨g', 0, none⟩) L cap)) w') : wpList Try.prog ops Q (o :: rest) a w := by
  subst hlm
  rw [List.length_append] at hL
  subst hL
  exact wpList_plain hgd fun _ hK => wp_app s x ho hv hw hx hlen fun g' cap w' h1 h2 => hK _ _ (h g' cap w' h1 h2)

/-! ### a slice of the call's own -/
theorem run_own {w0 w : World} {v : Value} {l : List Rg} (hv : Owns w w0.heap.size v l) (hw : Below w0.heap.size w0 w) {x : Value} {m : List Rg} (hx : Srcs w x m) (hm : m ≠ []) (hlen : l.length + m.length ≤ 100000) (ty : TypeId) :
    ∃ g' cap w', (Builtin.append_ #[28, 28] ty #[v, x]).run Try.prog w = .ok (.slice (some ⟨g', 0, none⟩) (l.length + m.length) cap) w' ∧ Owns w' w0.heap.size (.slice (some ⟨g', 0, none⟩) (l.length + m.length) cap) (l ++ m) ∧ Below w0.heap.size w0 w' ∧ w.grownBy w' v.ownBlock ∧ (v.ownBlock = some g' ∨ g' = w.heap.size) := by
  obtain ⟨i0, hi0, hz0, hz1, hz2⟩ := info_parts info_range
  have hmax : l.length + m.length ≤ maxLen := by unfold maxLen; omega
  rcases hx with ⟨-, e⟩ | ⟨gx, o, c, rfl, hgx, hcx⟩
  · exact absurd e hm
  · obtain ⟨g', cap, w', h1, h2, h3, h4, -⟩ := run_append_lies (P := Try.prog) w 28 ty w0.heap.size 30 i0 _ 2 16 Try.underlying28 hi0 hz0 hz1 hz2 (by rfl) (by omega) v l.length (flat l) hv ⟨gx, o, none⟩ m.length c (flat m) (flat_length m) hcx (flat_oneCell m) (List.length_pos_iff.2 hm) hmax (by omega) hw.size w.heap.size rfl
    refine ⟨g', cap, w', h1, ?_, below_grown hw h3 hw.size (fun k hk => (hv.lt hk).1), h3, h4⟩
    unfold Owns
    rw [flat_append, List.length_append]
    exact h2
theorem wpList_own {ops : Array Oper} {rest : List Oper} {o : Oper} {a : Act} {Q : Exit → Act → World → Prop} {w : World} (hgd : o.guard = none) (s x : Operand) (ho : o.op = .call { callee := .builtin .append, args := #[s, x], argTypes := #[28, 28] })
    {w0 : World} {l m lm : List Rg} {L : Nat} (hv : Owns w w0.heap.size (a.eval s) l) (hw : Below w0.heap.size w0 w) (hx : Srcs w (a.eval x) m) (hm : m ≠ []) (hlen : L ≤ 100000) (hlm : l ++ m = lm) (hL : lm.length = L)
    (h : ∀ g' cap w', Owns w' w0.heap.size (.slice (some ⟨g', 0, none⟩) L cap) lm → Below w0.heap.size w0 w' → w.grownBy w' (a.eval s).ownBlock → ((a.eval s).ownBlock = some g' ∨ g' = w.heap.size) → wpList Try.prog ops Q rest (a.put o.dst (.slice (some ⟨g', 0, none⟩) L cap)) w') : wpList Try.prog ops Q (o :: rest) a w := by
  subst hlm
  rw [List.length_append] at hL
  subst hL
  refine wpList_plain hgd fun _ hK => ?_
  obtain ⟨g', cap, w', hr, h2, h3, h4, h5⟩ := run_own hv hw hx hm hlen o.type
  unfold Oper.wp execOp
  simp only [ho, resolve, invoke, builtin, Sem.run_bind, Sem.run_pure, Result.andThen_ok, List.map_toArray, List.map_cons, List.map_nil, hr]
  exact hK _ _ (h g' cap w' h2 h3 h4 h5)
/-- A range in a block of its own, as what is appended. -/
theorem srcs_new (w : World) (x : Rg) (c : Nat) (t : TypeId) : Srcs (w.alloc (.cells x.cells t)) (.slice (some ⟨w.heap.size, 0, none⟩) 1 c) [x] :=
  .inr ⟨w.heap.size, 0, c, rfl, fun _ => by simp, fun j u hu => World.news_of_block (cs := x.cells) (t := t) (fr := (0, 0)) (heap_alloc_new w _) j u (by rw [flat_one] at hu; exact hu)⟩
theorem srcs_new' {w : World} {N : Nat} (hN : w.heap.size = N) (x : Rg) (c : Nat) (t : TypeId) : Srcs (w.alloc (.cells x.cells t)) (.slice (some ⟨N, 0, none⟩) 1 c) [x] := by subst hN; exact srcs_new w x c t
theorem owns_nil (w : World) (base : Nat) : Owns w base (.slice none 0 0) [] := World.ownsRow_nil _ _ _ _
end Go.Proofs.Ytlffgfkcgldekaa
