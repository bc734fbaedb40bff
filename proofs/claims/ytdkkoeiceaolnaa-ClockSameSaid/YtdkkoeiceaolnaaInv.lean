/-
  A region that draws its order, by one invariant over which operations have been done: each operation is looked at once, whatever the order (also in a round of a range over a function).
-/
import Derived.Test.YtdkkoeiceaolnaaWindows
namespace Go.Proofs.Ytdkkoeiceaolnaa

/-- How many are not listed. -/
def unlisted (L : Array Bool) : Nat := L.toList.count false
theorem unlisted_set {L : Array Bool} {i : Nat} (h : L.getD i true = false) : unlisted (L.setIfInBounds i true) + 1 = unlisted L := by
  unfold unlisted
  obtain ⟨l⟩ := L
  simp only [Array.getD_eq_getD_getElem?, List.getElem?_toArray] at h
  have hl : l[i]? = some false := by
    cases hx : l[i]? with
    | none => rw [hx] at h; simp at h
    | some v => rw [hx] at h; simpa using h
  simp only [List.setIfInBounds_toArray]
  clear h
  induction l generalizing i with
  | nil => simp at hl
  | cons y l ih =>
    cases i with
    | zero =>
      simp only [List.getElem?_cons_zero, Option.some.injEq] at hl
      subst hl
      simp
    | succ i =>
      simp only [List.getElem?_cons_succ] at hl
      have := ih hl
      simp only [List.set_cons_succ, List.count_cons]
      omega
theorem unlisted_zero {L : Array Bool} (h : unlisted L = 0) (i : Nat) : L.getD i true = true := by
  unfold unlisted at h
  rw [List.count_eq_zero] at h
  rw [Array.getD_eq_getD_getElem?]
  cases hx : L[i]? with
  | none => rfl
  | some v =>
    cases v with
    | true => rfl
    | false =>
      have hm : false ∈ L := Array.mem_of_getElem? hx
      exact absurd (Array.mem_toList_iff.2 hm) h

section
variable {F : Fence} {n : Nat} {P : Program} {ops : Array Oper} {Q : Exit → Act → World → Prop}
/-- The operation i may come up, and leads on in the invariant. -/
def StepOk (F : Fence) (n : Nat) (P : Program) (ops : Array Oper) (Q : Exit → Act → World → Prop) (I : Array Bool → Act → World → Prop) (L : Array Bool) (a : Act) (w : World) (i : Nat) (o : Oper) : Prop :=
  L.getD i true = false → (o.after.all fun e => !Region.binds .any e || L.getD e.on false) = true → ∀ K : Act → World → Prop, (∀ a' w', I (L.setIfInBounds i true) a' w' → K a' w') →
    if Region.wanted o (yielded ops a.tmps) = true then Oper.wpIn F n P o a w K Q else (∀ f, o.about P w a.eval = some f → F.fn f) ∧ K (a.put o.dst undef) w
/-- Each of a list of operations, from number k on. -/
def StepsOk (F : Fence) (n : Nat) (P : Program) (ops : Array Oper) (Q : Exit → Act → World → Prop) (I : Array Bool → Act → World → Prop) (L : Array Bool) (a : Act) (w : World) (k : Nat) (l : List Oper) : Prop :=
  ∀ i o, l[i]? = some o → StepOk F n P ops Q I L a w (k + i) o
theorem StepsOk.nil {I : Array Bool → Act → World → Prop} {L : Array Bool} {a : Act} {w : World} {k : Nat} : StepsOk F n P ops Q I L a w k [] := fun i o h => by simp at h
theorem StepsOk.cons {I : Array Bool → Act → World → Prop} {L : Array Bool} {a : Act} {w : World} {k : Nat} (k' : Nat) {o : Oper} {l : List Oper} (hk : k' = k + 1) (h : StepOk F n P ops Q I L a w k o) (h' : StepsOk F n P ops Q I L a w k' l) : StepsOk F n P ops Q I L a w k (o :: l) := fun i o' hi => by
  cases i with
  | zero => simp only [List.getElem?_cons_zero, Option.some.injEq] at hi; subst hi; exact h
  | succ i => simp only [List.getElem?_cons_succ] at hi; rw [show k + (i + 1) = k' + i by omega]; exact h' i o' hi

theorem region_inv {id : Nat} {l : List Oper} {a : Act} {w : World} (hm : P.follows .mixedOrders = true) (I : Array Bool → Act → World → Prop)
    (hstart : I (Array.replicate l.toArray.size false) a w.drew)
    (hstep : ∀ L a w, I L a w → StepsOk F n P l.toArray Q I L a w 0 l)
    (hdone : ∀ L a w, I L a w → Region.ready .any l.toArray L = [] → Q .normal a w) : (Code.region id l.toArray true).wpIn F n P Q a w := by
  refine wpIn_region_any hm ?_
  have key : ∀ fuel L a w, unlisted L ≤ fuel → I L a w → wpAnyIn F n P .any l.toArray Q fuel L a w := by
    intro fuel
    induction fuel with
    | zero =>
      intro L a w hu hI
      have hz := unlisted_zero (show unlisted L = 0 by omega)
      have hr : Region.ready .any l.toArray L = [] := by
        unfold Region.ready
        rw [List.filter_eq_nil_iff]
        intro i _
        simp [hz i]
      exact ⟨hr, hdone L a w hI hr⟩
    | succ fuel ih =>
      intro L a w hu hI
      refine ⟨fun hr => hdone L a w hI hr, fun i hi => ?_⟩
      unfold Region.ready at hi
      rw [List.mem_filter] at hi
      obtain ⟨hi1, hi2⟩ := hi
      rw [Bool.and_eq_true] at hi2
      obtain ⟨h1, h2⟩ := hi2
      have h1' : L.getD i true = false := by simpa using h1
      cases ho : l.toArray[i]? with
      | none => rw [ho] at h2; simp at h2
      | some o =>
        rw [ho] at h2
        refine wpOpIn_step ho fun K hK => ?_
        have hs := hstep L a w hI i o (by simpa using ho)
        rw [Nat.zero_add] at hs
        exact hs h1' (by simpa using h2) K fun a' w' hI' => hK a' w' (ih _ a' w' (by have := unlisted_set h1'; omega) hI')
  refine key _ _ _ _ ?_ hstart
  unfold unlisted
  simp
end
end Go.Proofs.Ytdkkoeiceaolnaa
