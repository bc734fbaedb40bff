/-
  What timers answer and leave, as plain lists in the document's order; what follows from that order.
-/
import Derived.Test.YtcanagecdniiiaaAl
namespace Go.Proofs.Ytcanagecdniiiaa

/-- The document's order: by Node, then by At, then by Tag. -/
def Al.lt (x y : Al) : Prop := x.n < y.n ∨ (x.n = y.n ∧ (x.a < y.a ∨ (x.a = y.a ∧ x.t < y.t)))
instance (x y : Al) : Decidable (x.lt y) := by unfold Al.lt; infer_instance
theorem Al.lt_irrefl (x : Al) : ¬ x.lt x := by unfold Al.lt; omega
theorem Al.lt_trans {x y z : Al} (h : x.lt y) (k : y.lt z) : x.lt z := by unfold Al.lt at *; omega
theorem Al.lt_asymm {x y : Al} (h : x.lt y) : ¬ y.lt x := by unfold Al.lt at *; omega
theorem Al.total {x y : Al} (h : ¬ x.lt y) (k : ¬ y.lt x) : x = y := by unfold Al.lt at *; exact Al.ext' (by omega) (by omega) (by omega)

/-- Two lists with the same alarms, both in order, are one. -/
theorem sorted_unique : ∀ (l k : List Al), l.Pairwise Al.lt → k.Pairwise Al.lt → (∀ x, x ∈ l ↔ x ∈ k) → l = k
  | [], [], _, _, _ => rfl
  | [], y :: k, _, _, h => by have := (h y).2 (by simp); simp at this
  | x :: l, [], _, _, h => by have := (h x).1 (by simp); simp at this
  | x :: l, y :: k, hl, hk, h => by
    obtain ⟨l1, l2⟩ := List.pairwise_cons.1 hl
    obtain ⟨k1, k2⟩ := List.pairwise_cons.1 hk
    have e : x = y := by
      have hx : x ∈ y :: k := (h x).1 (by simp)
      have hy : y ∈ x :: l := (h y).2 (by simp)
      rcases List.mem_cons.1 hx with e | hx
      · exact e
      · rcases List.mem_cons.1 hy with e | hy
        · exact e.symm
        · exact absurd (l1 y hy) (Al.lt_asymm (k1 x hx))
    subst e
    congr 1
    refine sorted_unique l k l2 k2 fun z => ?_
    have hz := h z
    simp only [List.mem_cons] at hz
    constructor
    · intro m
      rcases hz.1 (.inr m) with e | e
      · subst e; exact absurd (l1 z m) (Al.lt_irrefl z)
      · exact e
    · intro m
      rcases hz.2 (.inr m) with e | e
      · subst e; exact absurd (k1 z m) (Al.lt_irrefl z)
      · exact e

/-- x is the alarm of that node and tag. -/
def Al.is (x : Al) (n t : Int) : Prop := x.n = n ∧ x.t = t
instance (x : Al) (n t : Int) : Decidable (x.is n t) := by unfold Al.is; infer_instance
/-- No number of x is one that may not be. -/
def Al.ok (x : Al) : Prop := (0 ≤ x.n ∧ x.n ≤ 7) ∧ (0 ≤ x.a ∧ x.a ≤ 1099511627776) ∧ (0 ≤ x.t ∧ x.t ≤ 255)
instance (x : Al) : Decidable x.ok := by unfold Al.ok; infer_instance

/-- All but the one of a node and a tag. -/
def wo (l : List Al) (n t : Int) : List Al := l.filter fun x => !decide (x.is n t)
/-- x among those in order. -/
def ins (x : Al) : List Al → List Al
  | [] => [x]
  | y :: l => if x.lt y then x :: y :: l else y :: ins x l
def hasA (l : List Al) (n t : Int) : Bool := l.any fun x => decide (x.is n t)
def setE (l : List Al) (x : Al) : Int := if ¬ x.ok then 1 else if hasA l x.n x.t = false ∧ 64 ≤ l.length then 2 else 0
def setL (l : List Al) (x : Al) : List Al := if setE l x = 0 then ins x (wo l x.n x.t) else l
def stopE (l : List Al) (n t : Int) : Int := if hasA l n t then 0 else 3
def dueL (l : List Al) (n now : Int) : List Al := l.filter fun x => decide (x.n = n ∧ x.a ≤ now)
def leftL (l : List Al) (n now : Int) : List Al := l.filter fun x => !decide (x.n = n ∧ x.a ≤ now)
def nextA (l : List Al) (n : Int) : Al := (l.find? fun x => decide (x.n = n)).getD Al.zero
def nextB (l : List Al) (n : Int) : Bool := l.any fun x => decide (x.n = n)
def clearL (l : List Al) (n : Int) : List Al := l.filter fun x => !decide (x.n = n)
def ofNode (l : List Al) (n : Int) : List Al := l.filter fun x => decide (x.n = n)

/-- What timers have: in order, no two of one node and tag, no more than may be. -/
structure Good (l : List Al) : Prop where
  sorted : l.Pairwise Al.lt
  keys : l.Pairwise fun x y => ¬ (x.n = y.n ∧ x.t = y.t)
  all : ∀ x ∈ l, x.ok
  le : l.length ≤ 64

theorem Good.nil : Good [] := ⟨List.Pairwise.nil, List.Pairwise.nil, by simp, by simp⟩
theorem Good.filter {l : List Al} (h : Good l) (p : Al → Bool) : Good (l.filter p) :=
  ⟨h.sorted.filter p, h.keys.filter p, fun x hx => h.all x (List.mem_filter.1 hx).1, Nat.le_trans (List.length_filter_le _ _) h.le⟩
theorem Good.wo {l : List Al} (h : Good l) (n t : Int) : Good (wo l n t) := h.filter _
theorem Good.left {l : List Al} (h : Good l) (n now : Int) : Good (leftL l n now) := h.filter _
theorem Good.due {l : List Al} (h : Good l) (n now : Int) : Good (dueL l n now) := h.filter _
theorem Good.clear {l : List Al} (h : Good l) (n : Int) : Good (clearL l n) := h.filter _

/-- Of one node and tag there is one. -/
theorem key_unique_of : ∀ {l : List Al}, (l.Pairwise fun x y => ¬ (x.n = y.n ∧ x.t = y.t)) → ∀ {x y : Al}, x ∈ l → y ∈ l → x.n = y.n → x.t = y.t → x = y
  | [], _, _, _, hx, _, _, _ => by simp at hx
  | z :: l, hp, x, y, hx, hy, h1, h2 => by
    obtain ⟨p1, p2⟩ := List.pairwise_cons.1 hp
    rcases List.mem_cons.1 hx with ex | hx'
    · rcases List.mem_cons.1 hy with ey | hy'
      · rw [ex, ey]
      · exact absurd ⟨by rw [← ex]; exact h1, by rw [← ex]; exact h2⟩ (p1 y hy')
    · rcases List.mem_cons.1 hy with ey | hy'
      · exact absurd ⟨by rw [← ey]; exact h1.symm, by rw [← ey]; exact h2.symm⟩ (p1 x hx')
      · exact key_unique_of p2 hx' hy' h1 h2
theorem key_unique {l : List Al} (h : Good l) {x y : Al} (hx : x ∈ l) (hy : y ∈ l) (h1 : x.n = y.n) (h2 : x.t = y.t) : x = y := key_unique_of h.keys hx hy h1 h2
theorem mem_ins {x y : Al} {l : List Al} : y ∈ ins x l ↔ y = x ∨ y ∈ l := by
  induction l with
  | nil => simp [ins]
  | cons z l ih =>
    unfold ins
    split
    · simp
    · simp only [List.mem_cons, ih]; constructor <;> (rintro (h | h | h) <;> simp [h])
theorem ins_length (x : Al) (l : List Al) : (ins x l).length = l.length + 1 := by
  induction l with
  | nil => rfl
  | cons z l ih => unfold ins; split <;> simp [ih]
theorem ins_perm (x : Al) (l : List Al) : (ins x l).Perm (x :: l) := by
  induction l with
  | nil => exact List.Perm.refl _
  | cons z l ih =>
    unfold ins
    split
    · exact List.Perm.refl _
    · exact (ih.cons z).trans (List.Perm.swap x z l)
theorem mem_wo {l : List Al} {n t : Int} {x : Al} : x ∈ wo l n t ↔ x ∈ l ∧ ¬ x.is n t := by
  unfold wo; simp [List.mem_filter]
theorem hasA_iff {l : List Al} {n t : Int} : hasA l n t = true ↔ ∃ x ∈ l, x.is n t := by
  unfold hasA; simp [List.any_eq_true]
theorem hasA_false {l : List Al} {n t : Int} : hasA l n t = false ↔ ∀ x ∈ l, ¬ x.is n t := by
  unfold hasA; simp [List.any_eq_false]
theorem wo_self {l : List Al} {n t : Int} (h : hasA l n t = false) : wo l n t = l := by
  unfold wo
  rw [List.filter_eq_self]
  intro x hx
  simp [hasA_false.1 h x hx]
theorem ins_sorted {x : Al} {l : List Al} (h : l.Pairwise Al.lt) (hx : x ∉ l) : (ins x l).Pairwise Al.lt := by
  induction l with
  | nil => simp [ins]
  | cons z l ih =>
    obtain ⟨h1, h2⟩ := List.pairwise_cons.1 h
    unfold ins
    split
    · rename_i hlt
      refine List.pairwise_cons.2 ⟨fun y hy => ?_, h⟩
      rcases List.mem_cons.1 hy with rfl | hy
      · exact hlt
      · exact Al.lt_trans hlt (h1 y hy)
    · rename_i hlt
      refine List.pairwise_cons.2 ⟨fun y hy => ?_, ih h2 (fun hm => hx (by simp [hm]))⟩
      rcases mem_ins.1 hy with rfl | hy
      · rcases Decidable.em (z.lt y) with h | h
        · exact h
        · exact absurd (by simp [Al.total hlt h]) hx
      · exact h1 y hy
/-- Fewer, where there is one. -/
theorem wo_count : ∀ {l : List Al} (n t : Int), (l.Pairwise fun x y => ¬ (x.n = y.n ∧ x.t = y.t)) → (wo l n t).length + (if hasA l n t then 1 else 0) = l.length
  | [], _, _, _ => rfl
  | x :: l, n, t, hk => by
    obtain ⟨h1, h2⟩ := List.pairwise_cons.1 hk
    have ih := wo_count n t h2
    unfold wo hasA at ih ⊢
    by_cases hx : x.is n t
    · have hn : l.any (fun x => decide (x.is n t)) = false := by
        rw [List.any_eq_false]
        intro y hy
        have := h1 y hy
        rw [decide_eq_true_eq]
        intro hy'
        exact this ⟨hx.1.trans hy'.1.symm, hx.2.trans hy'.2.symm⟩
      rw [hn] at ih
      rw [List.filter_cons, List.any_cons, show decide (x.is n t) = true from decide_eq_true hx]
      simp only [Bool.false_eq_true, if_false, Nat.add_zero, Bool.not_true, Bool.true_or, if_true, List.length_cons] at ih ⊢
      omega
    · rw [List.filter_cons, List.any_cons, show decide (x.is n t) = false from decide_eq_false hx]
      simp only [Bool.not_false, if_true, Bool.false_or, List.length_cons]
      omega
theorem wo_length {l : List Al} (h : Good l) (n t : Int) : (wo l n t).length + (if hasA l n t then 1 else 0) = l.length := wo_count n t h.keys
theorem Good.ins {l : List Al} (h : Good l) {x : Al} (hx : x.ok) (hk : hasA l x.n x.t = false) (hl : l.length < 64) : Good (ins x l) := by
  have hk' := hasA_false.1 hk
  refine ⟨ins_sorted h.sorted (fun hm => hk' x hm ⟨rfl, rfl⟩), ?_, fun y hy => ?_, by rw [ins_length]; omega⟩
  · refine ((ins_perm x l).pairwise_iff (fun {a b} (hab : ¬ (a.n = b.n ∧ a.t = b.t)) (hba : b.n = a.n ∧ b.t = a.t) => hab ⟨hba.1.symm, hba.2.symm⟩)).2 (List.pairwise_cons.2 ⟨fun y hy hxy => hk' y hy ⟨hxy.1.symm, hxy.2.symm⟩, h.keys⟩)
  · rcases mem_ins.1 hy with rfl | hy
    · exact hx
    · exact h.all y hy
theorem hasA_wo (l : List Al) (n t : Int) : hasA (Go.Proofs.Ytcanagecdniiiaa.wo l n t) n t = false := hasA_false.2 fun _ hx => (mem_wo.1 hx).2
theorem Good.set {l : List Al} (h : Good l) (x : Al) : Good (setL l x) := by
  unfold setL
  split
  · rename_i he
    unfold setE at he
    split at he
    · simp at he
    · rename_i hok
      split at he
      · simp at he
      · rename_i hr
        have hw := wo_length h x.n x.t
        refine (h.wo x.n x.t).ins (Decidable.not_not.1 hok) (hasA_wo _ _ _) ?_
        have := h.le
        by_cases hh : hasA l x.n x.t = true
        · rw [if_pos hh] at hw; omega
        · have hf : hasA l x.n x.t = false := by simpa using hh
          rw [hf] at hw hr
          simp at hw hr
          omega
  · exact h
theorem dueL_clear {l : List Al} (h : Good l) (n : Int) : dueL l n 1099511627776 = ofNode l n ∧ leftL l n 1099511627776 = clearL l n := by
  unfold dueL ofNode leftL clearL
  constructor
  · apply List.filter_congr; intro x hx
    have := (h.all x hx).2.1
    simp; omega
  · apply List.filter_congr; intro x hx
    have := (h.all x hx).2.1
    simp; omega
theorem filter_len (l : List Al) (p : Al → Bool) : (l.filter p).length + (l.filter fun x => !p x).length = l.length := by
  induction l with
  | nil => rfl
  | cons x l ih => cases hp : p x <;> simp [hp] <;> omega

/-! ### the document's way to lay one in -/
theorem ins_snoc_hit (x y : Al) (l : List Al) (h : (l.any fun z => decide (x.lt z)) = true) : ins x (l ++ [y]) = ins x l ++ [y] := by
  induction l with
  | nil => simp at h
  | cons z l ih =>
    rw [List.any_cons, Bool.or_eq_true, decide_eq_true_eq] at h
    rw [List.cons_append, ins, ins]
    by_cases hz : x.lt z
    · rw [if_pos hz, if_pos hz]; rfl
    · rw [if_neg hz, if_neg hz, ih (h.resolve_left hz)]; rfl
theorem ins_snoc_now (x y : Al) (l : List Al) (h : (l.any fun z => decide (x.lt z)) = false) (hy : x.lt y) : ins x (l ++ [y]) = l ++ [x] ++ [y] := by
  induction l with
  | nil => simp [ins, hy]
  | cons z l ih =>
    rw [List.any_cons, Bool.or_eq_false_iff, decide_eq_false_iff_not] at h
    rw [List.cons_append, ins, if_neg h.1, ih h.2]; rfl
theorem ins_end (x : Al) (l : List Al) (h : (l.any fun z => decide (x.lt z)) = false) : ins x l = l ++ [x] := by
  induction l with
  | nil => rfl
  | cons z l ih =>
    rw [List.any_cons, Bool.or_eq_false_iff, decide_eq_false_iff_not] at h
    rw [ins, if_neg h.1, ih h.2]; rfl
/-- What is laid behind k rounds. -/
def past (x : Al) (l : List Al) : Bool := l.any fun z => decide (x.lt z)
def laid (x : Al) (l : List Al) : List Al := if past x l then ins x l else l
theorem laid_nil (x : Al) : laid x [] = [] := rfl
theorem past_snoc (x y : Al) (l : List Al) : past x (l ++ [y]) = (past x l || decide (x.lt y)) := by unfold past; simp
theorem laid_snoc_on (x y : Al) (l : List Al) (h : past x l = true) : laid x (l ++ [y]) = laid x l ++ [y] := by
  unfold laid; rw [past_snoc, h]; simp only [Bool.true_or, if_true]; exact ins_snoc_hit x y l h
theorem laid_snoc_now (x y : Al) (l : List Al) (h : past x l = false) (hy : x.lt y) : laid x (l ++ [y]) = laid x l ++ [x] ++ [y] := by
  unfold laid; rw [past_snoc, h]; simp only [hy, decide_true, Bool.or_true, if_true, Bool.false_eq_true, if_false]; exact ins_snoc_now x y l h hy
theorem laid_snoc_not (x y : Al) (l : List Al) (h : past x l = false) (hy : ¬ x.lt y) : laid x (l ++ [y]) = laid x l ++ [y] := by
  unfold laid; rw [past_snoc, h]; simp [hy]
theorem laid_end_hit (x : Al) (l : List Al) (h : past x l = true) : laid x l = ins x l := by unfold laid; rw [if_pos h]
theorem laid_end_not (x : Al) (l : List Al) (h : past x l = false) : laid x l = l ∧ ins x l = l ++ [x] := ⟨by unfold laid; rw [h]; rfl, ins_end x l h⟩
theorem laid_length (x : Al) (l : List Al) : (laid x l).length ≤ l.length + 1 := by unfold laid; split <;> simp [ins_length]
end Go.Proofs.Ytcanagecdniiiaa
