/-
  Ranges that are held: none is free, no two have a place in common, and with what is free they are all.
-/
import Derived.Test.YtlffgfkcgldekaaBk
namespace Go.Proofs.Ytlffgfkcgldekaa
open Go.RowKit

def Dis (a b : Rg) : Prop := a.t ≤ b.f ∨ b.t ≤ a.f
structure Ap (s : St) (H : List Rg) : Prop where
  good : Good s
  n : s.n = 100
  may : ∀ x ∈ H, mayE s x = 0
  no : ∀ x ∈ H, All s x false
  ap : H.Pairwise Dis
  sum : total H + cnt s.p s.n = 100
theorem Ap.fresh : Ap (fresh 100) [] :=
  ⟨Good.fresh 100, rfl, fun x hx => (by cases hx), fun x hx => (by cases hx), List.Pairwise.nil, by rw [cnt_fresh]; rfl⟩
/-- What is all free, and what is not, have no place in common. -/
theorem dis_of {s : St} {a x : Rg} (ha : All s a true) (hx : All s x false) (h1 : a.f < a.t) (h2 : x.f < x.t) : Dis a x := by
  unfold Dis
  refine Classical.byContradiction fun hc => ?_
  have h3 : x.f < a.t := by omega
  have h4 : a.f < x.t := by omega
  rcases Int.lt_or_le a.f x.f with h | h
  · have e1 := ha x.f (by omega) h3
    have e2 := hx x.f (by omega) h2
    rw [e1] at e2; cases e2
  · have e1 := ha a.f (by omega) h1
    have e2 := hx a.f h h4
    rw [e1] at e2; cases e2
theorem all_set_other {s : St} {a x : Rg} {b c : Bool} (hd : Dis a x) (hx : All s x c) : All (set s a b) x c := fun i h1 h2 => by
  simp only [set, setP]
  unfold Dis at hd
  rw [if_neg (by omega)]
  exact hx i h1 h2
section
variable {s : St} {H : List Rg}
theorem Ap.alloc (h : Ap s H) {a : Rg} (hm : mayE s a = 0) (ha : All s a true) : Ap (set s a false) (H ++ [a]) := by
  obtain ⟨h1, h2, h3⟩ := mayE_zero hm
  have hdis : ∀ x ∈ H, Dis a x := fun x hx => dis_of ha (h.no x hx) h1 (mayE_zero (h.may x hx)).1
  refine ⟨h.good.set hm _, h.n, fun x hx => ?_, fun x hx => ?_, List.pairwise_append.2 ⟨h.ap, List.pairwise_singleton _ _, fun x hx y hy => ?_⟩, ?_⟩
  · rw [mayE_set]
    rcases List.mem_append.1 hx with hx | hx
    · exact h.may x hx
    · simp at hx; subst hx; exact hm
  · rcases List.mem_append.1 hx with hx | hx
    · exact all_set_other (hdis x hx) (h.no x hx)
    · simp at hx; subst hx; exact set_all _ _ _
  · simp at hy; subst hy
    have := hdis x hx; unfold Dis at this ⊢; omega
  · rw [cnt_take hm ha, total_append]
    have := h.sum
    simp [total]; omega
theorem Ap.give (h : Ap s H) {q : Nat} {a : Rg} (hq : H[q]? = some a) : giveE s a = 0 ∧ giveS s a = set s a true ∧ Ap (set s a true) (H.take q ++ H.drop (q + 1)) := by
  have hmem := List.mem_of_getElem? hq
  have hm := h.may a hmem
  have ha := h.no a hmem
  have he : giveE s a = 0 := giveE_zero.2 ⟨hm, ha⟩
  have hsplit := split_at hq
  have hap := h.ap
  rw [hsplit, List.pairwise_append] at hap
  obtain ⟨p1, p2, p3⟩ := hap
  rw [List.pairwise_append] at p2
  obtain ⟨-, p4, p5⟩ := p2
  have sub : ∀ x ∈ H.take q ++ H.drop (q + 1), x ∈ H ∧ Dis a x := by
    intro x hx
    rcases List.mem_append.1 hx with hx | hx
    · refine ⟨List.mem_of_mem_take hx, ?_⟩
      have := p3 x hx a (by simp); unfold Dis at this ⊢; omega
    · exact ⟨List.mem_of_mem_drop hx, p5 a (by simp) x hx⟩
  refine ⟨he, by unfold giveS; rw [if_pos he], h.good.set hm _, h.n, fun x hx => h.may x (sub x hx).1, fun x hx => all_set_other (sub x hx).2 (h.no x (sub x hx).1), List.pairwise_append.2 ⟨p1, p4, fun x hx y hy => p3 x hx y (by simp [hy])⟩, ?_⟩
  rw [cnt_give hm ha, total_append]
  have hs := h.sum
  rw [hsplit, total_append, total_append] at hs
  simp only [total] at hs ⊢
  omega
theorem total_pos : ∀ {l : List Rg}, (∀ x ∈ l, x.f < x.t) → ∀ k, 0 ≤ total (l.take k) ∧ total (l.take k) ≤ total l
  | [], _, k => by simp [total]
  | x :: l, h, 0 => by
    have h1 := (total_pos (l := l) (fun y hy => h y (by simp [hy])) l.length).2
    have h2 := (total_pos (l := l) (fun y hy => h y (by simp [hy])) l.length).1
    rw [List.take_length] at h2
    have := h x (by simp)
    simp only [List.take_zero, total]; omega
  | x :: l, h, k + 1 => by
    have h1 := total_pos (l := l) (fun y hy => h y (by simp [hy])) k
    have := h x (by simp)
    simp only [List.take_succ_cons, total]; omega
theorem Ap.bound (h : Ap s H) (k : Nat) : 0 ≤ total (H.take k) ∧ total (H.take k) ≤ 100 := by
  have h1 := total_pos (fun x hx => (mayE_zero (h.may x hx)).1) k
  have h2 := h.sum
  have h3 := cnt_in s.p s.n
  omega
theorem Ap.el (h : Ap s H) {q : Nat} {a : Rg} (hq : H[q]? = some a) : 0 ≤ a.f ∧ a.f < a.t ∧ a.t ≤ 100 := by
  obtain ⟨h1, h2, h3⟩ := mayE_zero (h.may a (List.mem_of_getElem? hq))
  rw [h.n] at h3
  exact ⟨h2, h1, h3⟩
theorem Ap.two (h : Ap s H) {j k : Nat} {x y : Rg} (hjk : j < k) (hx : H[k]? = some x) (hy : H[j]? = some y) : y.t ≤ x.f ∨ x.t ≤ y.f := by
  obtain ⟨h1, rfl⟩ := List.getElem?_eq_some_iff.1 hx
  obtain ⟨h2, rfl⟩ := List.getElem?_eq_some_iff.1 hy
  exact List.pairwise_iff_getElem.1 h.ap _ _ h2 h1 hjk
end
theorem Owns.mono {w : World} {base base' : Nat} {v : Value} {l : List Rg} (h : Owns w base v l) (hb : base' ≤ base) : Owns w base' v l := by
  refine ⟨h.1, ?_⟩
  rcases h.2 with hn | ⟨g, cap, cur, rfl, hbs, rest⟩
  · exact .inl hn
  · exact .inr ⟨g, cap, cur, rfl, by omega, rest⟩
/-- append, maybe of nothing, to a slice that is not nil. -/
theorem wpList_own0 {ops : Array Oper} {rest : List Oper} {o : Oper} {a : Act} {Q : Exit → Act → World → Prop} {w : World} (hgd : o.guard = none) (s x : Operand) (ho : o.op = .call { callee := .builtin .append, args := #[s, x], argTypes := #[28, 28] })
    {w0 : World} {l m lm : List Rg} {L : Nat} {g0 n0 c0 : Nat} (hv0 : a.eval s = .slice (some ⟨g0, 0, none⟩) n0 c0) (hv : Owns w w0.heap.size (a.eval s) l) (hw : Below w0.heap.size w0 w) (hx : Srcs w (a.eval x) m) {gx ox nx cx : Nat} (hx0 : a.eval x = .slice (some ⟨gx, ox, none⟩) nx cx) (hlen : L ≤ 100000) (hlm : l ++ m = lm) (hL : lm.length = L)
    (h : ∀ g' cap w', Owns w' w0.heap.size (.slice (some ⟨g', 0, none⟩) L cap) lm → Below w0.heap.size w0 w' → wpList Try.prog ops Q rest (a.put o.dst (.slice (some ⟨g', 0, none⟩) L cap)) w') : wpList Try.prog ops Q (o :: rest) a w := by
  subst hlm
  rw [List.length_append] at hL
  subst hL
  obtain ⟨i0, hi0, hz0, hz1, hz2⟩ := info_parts info_range
  have hmax : l.length + m.length ≤ maxLen := by unfold maxLen; omega
  rcases hx with ⟨e, -⟩ | ⟨gx', o', c, e, hgx, hcx⟩
  · rw [hx0] at e; cases e
  · obtain ⟨v', w', h1, h2, h3, h4⟩ := run_append_own (P := Try.prog) w w0.heap.size 28 o.type 30 i0 _ 2 16 Try.underlying28 hi0 hz0 hz1 hz2 (by rfl) (by omega) (a.eval s) l.length (flat l) hv ⟨gx', o', none⟩ m.length c (flat m) (flat_length m) hcx (flat_oneCell m) hmax (by omega) hw.size
    have hne : v' ≠ .slice none 0 0 := fun e => by
      have := (h4.1 e).1
      rw [hv0] at this; cases this
    have hO : Owns w' w0.heap.size v' (l ++ m) := by
      unfold Owns
      rw [flat_append, List.length_append]
      exact h2
    rcases hO.form with ⟨e', -⟩ | ⟨g', cap, rfl, -, -⟩
    · exact absurd e' hne
    · rw [List.length_append] at h1 hO
      have hB : Below w0.heap.size w0 w' := below_grown hw h3 hw.size (fun k hk => (hv.lt hk).1)
      refine wpList_plain hgd fun _ hK => ?_
      unfold Oper.wp execOp
      simp only [ho, resolve, invoke, builtin, Sem.run_bind, Sem.run_pure, Result.andThen_ok, List.map_toArray, List.map_cons, List.map_nil, e, h1]
      exact hK _ _ (h g' cap w' hO hB)
theorem own_of {v : Value} {g' N L cap : Nat} (h : v.ownBlock = some g' ∨ g' = N) : ∀ k, (Value.slice (some ⟨g', 0, none⟩) L cap).ownBlock = some k → v.ownBlock = some k ∨ N ≤ k := fun k hk => by
  have e : g' = k := by simpa [Value.ownBlock] using hk
  subst e
  rcases h with h | h
  · exact .inl h
  · exact .inr (by omega)
theorem Owns.lst {w : World} {base g n c : Nat} {l : List Rg} (h : Owns w base (.slice (some ⟨g, 0, none⟩) n c) l) : Lst w g c l := by
  rcases h.form with ⟨e, -⟩ | ⟨g', cap, e, -, hl⟩
  · cases e
  · simp only [Value.slice.injEq, Option.some.injEq, Addr.mk.injEq, and_true] at e
    obtain ⟨rfl, -, rfl⟩ := e
    exact hl
theorem BK.lit {w W : World} {b : Nat} {s : St} (h : PIO w W b s (fun _ => False)) : BK w (W.alloc (.cells #[] 30)) b s w.heap.size (.slice (some ⟨W.heap.size, 0, none⟩) 0 0) [] [] := by
  refine ⟨h.turn (Keeps.of_below ((Below.refl _ _).alloc (Nat.le_refl _) _)) (fun k hk => ?_) (fun k hk => ?_), Owns.lit h.bel.size, fun x hx => by cases hx⟩
  · rcases hk with hk | ⟨x, hx, _⟩
    · have e : W.heap.size = k := by simpa [Value.ownBlock] using hk
      subst e; exact .inr (Nat.le_refl _)
    · cases hx
  · rcases hk with hk | ⟨x, hx, _⟩
    · have e : W.heap.size = k := by simpa [Value.ownBlock] using hk
      subst e; simp
    · cases hx
end Go.Proofs.Ytlffgfkcgldekaa
