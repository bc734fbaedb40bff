/-
  What is free, as plain data: places that are free or not; ranges in a row that have just these; what each call answers and leaves.
-/
import Derived.Test.YtlffgfkcgldekaaProg
namespace Go.Proofs.Ytlffgfkcgldekaa

/-- A range: from f on, below t. -/
structure Rg where
  f : Int
  t : Int
theorem Rg.ext' {x y : Rg} (h1 : x.f = y.f) (h2 : x.t = y.t) : x = y := by cases x; cases y; simp_all
instance : DecidableEq Rg := fun x y => decidable_of_iff (x.f = y.f ∧ x.t = y.t) ⟨fun ⟨h1, h2⟩ => Rg.ext' h1 h2, fun h => by subst h; exact ⟨rfl, rfl⟩⟩
instance : Inhabited Rg := ⟨⟨0, 0⟩⟩
/-- A map of n places: which are free. -/
structure St where
  n : Nat
  p : Int → Bool
structure Good (s : St) : Prop where
  lo : 1 ≤ s.n
  hi : s.n ≤ 4096
  inn : ∀ i, s.p i = true → 0 ≤ i ∧ i < (s.n : Int)
theorem St.ext' {x y : St} (h1 : x.n = y.n) (h2 : ∀ i, x.p i = y.p i) : x = y := by
  cases x; cases y; simp only [St.mk.injEq]; exact ⟨h1, funext h2⟩

/-! ### ranges in a row -/
/-- The place i is in one of the ranges. -/
def Mem (l : List Rg) (i : Int) : Prop := ∃ x ∈ l, x.f ≤ i ∧ i < x.t
/-- The ranges have places, rise, and do not touch. -/
structure Sep (l : List Rg) : Prop where
  pos : ∀ x ∈ l, x.f < x.t
  ap : l.Pairwise (fun a b => a.t < b.f)
theorem Sep.nil : Sep [] := ⟨fun x h => (by cases h), List.Pairwise.nil⟩
theorem sep_append {l k : List Rg} : Sep (l ++ k) ↔ Sep l ∧ Sep k ∧ ∀ a ∈ l, ∀ b ∈ k, a.t < b.f := by
  constructor
  · rintro ⟨h1, h2⟩
    rw [List.pairwise_append] at h2
    exact ⟨⟨fun x hx => h1 x (List.mem_append_left _ hx), h2.1⟩, ⟨fun x hx => h1 x (List.mem_append_right _ hx), h2.2.1⟩, h2.2.2⟩
  · rintro ⟨⟨h1, h2⟩, ⟨h3, h4⟩, h5⟩
    exact ⟨fun x hx => by rcases List.mem_append.1 hx with h | h; exact h1 x h; exact h3 x h, List.pairwise_append.2 ⟨h2, h4, h5⟩⟩
theorem sep_cons {x : Rg} {l : List Rg} : Sep (x :: l) ↔ x.f < x.t ∧ Sep l ∧ ∀ b ∈ l, x.t < b.f := by
  constructor
  · rintro ⟨h1, h2⟩
    rw [List.pairwise_cons] at h2
    exact ⟨h1 x (by simp), ⟨fun y hy => h1 y (by simp [hy]), h2.2⟩, h2.1⟩
  · rintro ⟨h1, ⟨h2, h3⟩, h4⟩
    exact ⟨fun y hy => by rcases List.mem_cons.1 hy with rfl | h; exact h1; exact h2 y h, List.pairwise_cons.2 ⟨h4, h3⟩⟩
theorem sep_one {x : Rg} : Sep [x] ↔ x.f < x.t := by rw [sep_cons]; exact ⟨fun h => h.1, fun h => ⟨h, Sep.nil, fun b hb => by cases hb⟩⟩
theorem mem_append {l k : List Rg} {i : Int} : Mem (l ++ k) i ↔ Mem l i ∨ Mem k i := by
  constructor
  · rintro ⟨x, hx, h⟩
    rcases List.mem_append.1 hx with hx | hx
    · exact .inl ⟨x, hx, h⟩
    · exact .inr ⟨x, hx, h⟩
  · rintro (⟨x, hx, h⟩ | ⟨x, hx, h⟩)
    · exact ⟨x, List.mem_append_left _ hx, h⟩
    · exact ⟨x, List.mem_append_right _ hx, h⟩
theorem mem_cons {x : Rg} {l : List Rg} {i : Int} : Mem (x :: l) i ↔ (x.f ≤ i ∧ i < x.t) ∨ Mem l i := by
  constructor
  · rintro ⟨y, hy, h⟩
    rcases List.mem_cons.1 hy with rfl | hy
    · exact .inl h
    · exact .inr ⟨y, hy, h⟩
  · rintro (h | ⟨y, hy, h⟩)
    · exact ⟨x, by simp, h⟩
    · exact ⟨y, by simp [hy], h⟩
theorem mem_nil {i : Int} : ¬ Mem [] i := by rintro ⟨x, hx, _⟩; cases hx
/-- Ranges that have the same places are the same. -/
theorem sep_unique : ∀ {l k : List Rg}, Sep l → Sep k → (∀ i, Mem l i ↔ Mem k i) → l = k
  | [], [], _, _, _ => rfl
  | [], y :: k, _, hk, h => by
    have hy := (sep_cons.1 hk).1
    exact absurd ((h y.f).2 (mem_cons.2 (.inl ⟨by omega, hy⟩))) mem_nil
  | x :: l, [], hl, _, h => by
    have hx := (sep_cons.1 hl).1
    exact absurd ((h x.f).1 (mem_cons.2 (.inl ⟨by omega, hx⟩))) mem_nil
  | x :: l, y :: k, hl, hk, h => by
    obtain ⟨hx, hl', hxl⟩ := sep_cons.1 hl
    obtain ⟨hy, hk', hyk⟩ := sep_cons.1 hk
    have lo : ∀ {z : Rg} {m : List Rg}, z.f < z.t → (∀ b ∈ m, z.t < b.f) → ∀ {i}, Mem (z :: m) i → z.f ≤ i := by
      intro z m hz hm i hi
      rcases mem_cons.1 hi with h1 | ⟨b, hb, h1⟩
      · exact h1.1
      · have := hm b hb; omega
    have e1 : x.f = y.f := by
      have a := lo hy hyk ((h x.f).1 (mem_cons.2 (.inl ⟨by omega, hx⟩)))
      have b := lo hx hxl ((h y.f).2 (mem_cons.2 (.inl ⟨by omega, hy⟩)))
      omega
    have gap : ∀ {z : Rg} {m : List Rg}, (∀ b ∈ m, z.t < b.f) → ¬ Mem (z :: m) z.t := by
      intro z m hm hi
      rcases mem_cons.1 hi with h1 | ⟨b, hb, h1⟩
      · omega
      · have := hm b hb; omega
    have e2 : x.t = y.t := by
      rcases Int.lt_trichotomy x.t y.t with hlt | he | hgt
      · exact absurd ((h x.t).2 (mem_cons.2 (.inl ⟨by omega, hlt⟩))) (gap hxl)
      · exact he
      · exact absurd ((h y.t).1 (mem_cons.2 (.inl ⟨by omega, hgt⟩))) (gap hyk)
    have e : x = y := Rg.ext' e1 e2
    subst e
    have hm : ∀ i, Mem l i ↔ Mem k i := by
      intro i
      have out : ∀ {m : List Rg}, (∀ b ∈ m, x.t < b.f) → Mem m i → x.t ≤ i := by
        rintro m hm ⟨b, hb, h1⟩; have := hm b hb; omega
      constructor
      · intro hi
        rcases mem_cons.1 ((h i).1 (mem_cons.2 (.inr hi))) with h1 | h1
        · have := out hxl hi; omega
        · exact h1
      · intro hi
        rcases mem_cons.1 ((h i).2 (mem_cons.2 (.inr hi))) with h1 | h1
        · have := out hyk hi; omega
        · exact h1
    rw [sep_unique hl' hk' hm]

/-- The ranges l have just the places below k that are free. -/
structure IsU (p : Int → Bool) (k : Nat) (l : List Rg) : Prop where
  sep : Sep l
  bd : ∀ x ∈ l, 0 ≤ x.f ∧ x.t ≤ (k : Int)
  mem : ∀ i : Int, 0 ≤ i → i < (k : Int) → (p i = true ↔ Mem l i)
theorem IsU.unique {p : Int → Bool} {k : Nat} {l m : List Rg} (h : IsU p k l) (h' : IsU p k m) : l = m := by
  refine sep_unique h.sep h'.sep fun i => ?_
  by_cases hi : 0 ≤ i ∧ i < (k : Int)
  · rw [← h.mem i hi.1 hi.2, ← h'.mem i hi.1 hi.2]
  · have no : ∀ {m : List Rg}, (∀ x ∈ m, 0 ≤ x.f ∧ x.t ≤ (k : Int)) → ¬ Mem m i := by
      rintro m hm ⟨x, hx, h1⟩; have := hm x hx; omega
    exact ⟨fun a => absurd a (no h.bd), fun a => absurd a (no h'.bd)⟩
theorem IsU.zero (p : Int → Bool) : IsU p 0 [] := ⟨Sep.nil, fun x hx => (by cases hx), fun i h1 h2 => by omega⟩
theorem IsU.no {p : Int → Bool} {k : Nat} {l : List Rg} (h : IsU p k l) (hp : p k = false) : IsU p (k + 1) l := by
  refine ⟨h.sep, fun x hx => by have := h.bd x hx; omega, fun i h1 h2 => ?_⟩
  by_cases e : i = k
  · subst e
    rw [hp]
    refine ⟨fun a => (by cases a), ?_⟩
    rintro ⟨x, hx, h3⟩
    have := h.bd x hx; omega
  · exact h.mem i h1 (by omega)
theorem IsU.new {p : Int → Bool} {k : Nat} {l : List Rg} (h : IsU p k l) (hp : p k = true) (hq : ¬ (0 < k ∧ p ((k : Int) - 1) = true)) : IsU p (k + 1) (l ++ [⟨k, k + 1⟩]) := by
  have hlt : ∀ a ∈ l, a.t < (k : Int) := by
    intro a ha
    have h1 := h.bd a ha
    have h2 := h.sep.pos a ha
    rcases Int.lt_or_le a.t k with h3 | h3
    · exact h3
    · exact absurd ⟨by omega, (h.mem (k - 1) (by omega) (by omega)).2 ⟨a, ha, by omega, by omega⟩⟩ hq
  refine ⟨sep_append.2 ⟨h.sep, sep_one.2 (by show (k : Int) < k + 1; omega), fun a ha b hb => by simp at hb; subst hb; exact hlt a ha⟩, fun x hx => ?_, fun i h1 h2 => ?_⟩
  · rcases List.mem_append.1 hx with hx | hx
    · have := h.bd x hx; omega
    · simp at hx; subst hx; show 0 ≤ (k : Int) ∧ (k : Int) + 1 ≤ _; omega
  · rw [mem_append]
    by_cases e : i = k
    · subst e
      rw [hp]
      exact ⟨fun _ => .inr ⟨⟨k, k + 1⟩, by simp, by show (k : Int) ≤ k ∧ (k : Int) < k + 1; omega⟩, fun _ => rfl⟩
    · rw [h.mem i h1 (by omega)]
      refine ⟨.inl, fun a => ?_⟩
      rcases a with a | ⟨x, hx, h3⟩
      · exact a
      · simp at hx; subst hx
        have h4 : (k : Int) ≤ i := h3.1
        omega
theorem IsU.ext {p : Int → Bool} {k : Nat} {l : List Rg} (h : IsU p k l) (hp : p k = true) (h0 : 0 < k) (hq : p ((k : Int) - 1) = true) : ∃ l0 a, l = l0 ++ [⟨a, k⟩] ∧ IsU p (k + 1) (l0 ++ [⟨a, k + 1⟩]) := by
  obtain ⟨x, hx, h1, h2⟩ := (h.mem (k - 1) (by omega) (by omega)).1 hq
  have hb := h.bd x hx
  obtain ⟨l0, l1, rfl⟩ := List.append_of_mem hx
  have hs := sep_append.1 h.sep
  have hs2 := sep_cons.1 hs.2.1
  obtain rfl : l1 = [] := by
    cases l1 with
    | nil => rfl
    | cons y l1 =>
      have h3 := hs2.2.2 y (by simp)
      have h4 := hs2.2.1.pos y (by simp)
      have h5 := h.bd y (by simp)
      omega
  obtain ⟨xf, xt⟩ := x
  have ht : xt = k := by have h1' : xt ≤ (k : Int) := hb.2; have h2' : (k : Int) - 1 < xt := h2; omega
  subst ht
  have hf : xf < (k : Int) := hs2.1
  refine ⟨l0, xf, rfl, sep_append.2 ⟨hs.1, sep_one.2 (by show xf < (k : Int) + 1; omega), fun a ha b hb' => by simp at hb'; subst hb'; exact hs.2.2 a ha ⟨xf, k⟩ (by simp)⟩, fun y hy => ?_, fun i h3 h4 => ?_⟩
  · rcases List.mem_append.1 hy with hy | hy
    · have := h.bd y (List.mem_append_left _ hy); omega
    · simp at hy; subst hy; have h5 : 0 ≤ xf := hb.1; show 0 ≤ xf ∧ (k : Int) + 1 ≤ _; omega
  · rw [mem_append, mem_cons]
    show p i = true ↔ Mem l0 i ∨ (xf ≤ i ∧ i < (k : Int) + 1) ∨ Mem [] i
    by_cases e : i = k
    · subst e
      rw [hp]
      exact ⟨fun _ => .inr (.inl (by omega)), fun _ => rfl⟩
    · rw [h.mem i h3 (by omega), mem_append, mem_cons]
      show Mem l0 i ∨ (xf ≤ i ∧ i < (k : Int)) ∨ Mem [] i ↔ _
      have e2 : (xf ≤ i ∧ i < (k : Int)) ↔ (xf ≤ i ∧ i < (k : Int) + 1) := by omega
      rw [e2]

/-! ### how many -/
def total : List Rg → Int
  | [] => 0
  | x :: l => (x.t - x.f) + total l
theorem total_append (l k : List Rg) : total (l ++ k) = total l + total k := by
  induction l with
  | nil => simp [total]
  | cons x l ih => simp only [List.cons_append, total, ih]; omega
def cnt (p : Int → Bool) : Nat → Int
  | 0 => 0
  | k + 1 => cnt p k + if p k = true then 1 else 0
theorem cnt_in (p : Int → Bool) (k : Nat) : 0 ≤ cnt p k ∧ cnt p k ≤ (k : Int) := by
  induction k with
  | zero => exact ⟨Int.le_refl _, Int.le_refl _⟩
  | succ k ih => unfold cnt; split <;> omega
/-- There are such ranges, and they have as many places as are free. -/
theorem runs_ex (p : Int → Bool) (k : Nat) : ∃ l, IsU p k l ∧ total l = cnt p k := by
  induction k with
  | zero => exact ⟨[], IsU.zero p, rfl⟩
  | succ k ih =>
    obtain ⟨l, h1, h2⟩ := ih
    cases hp : p k with
    | false => exact ⟨l, h1.no hp, by rw [cnt, hp, h2]; simp⟩
    | true =>
      by_cases hq : 0 < k ∧ p ((k : Int) - 1) = true
      · obtain ⟨l0, a, rfl, h3⟩ := h1.ext hp hq.1 hq.2
        refine ⟨_, h3, ?_⟩
        rw [cnt, hp, ← h2, total_append, total_append]
        simp [total]; omega
      · refine ⟨_, h1.new hp hq, ?_⟩
        rw [cnt, hp, ← h2, total_append]
        simp [total]; omega
theorem IsU.total {p : Int → Bool} {k : Nat} {l : List Rg} (h : IsU p k l) : total l = cnt p k := by
  obtain ⟨m, h1, h2⟩ := runs_ex p k
  rw [h.unique h1]; exact h2
/-- The free ranges of a map. -/
noncomputable def runs (s : St) : List Rg := Classical.choose (runs_ex s.p s.n)
theorem runs_is (s : St) : IsU s.p s.n (runs s) := (Classical.choose_spec (runs_ex s.p s.n)).1
theorem runs_eq {s : St} {l : List Rg} (h : IsU s.p s.n l) : l = runs s := h.unique (runs_is s)
theorem runs_total (s : St) : total (runs s) = cnt s.p s.n := (runs_is s).total
/-- There are no more ranges than places. -/
theorem sep_length : ∀ {l : List Rg}, Sep l → (l.length : Int) ≤ total l
  | [], _ => by simp [total]
  | x :: l, h => by
    have := sep_length (sep_cons.1 h).2.1
    have := (sep_cons.1 h).1
    simp only [List.length_cons, total]; omega
theorem runs_length {s : St} (h : Good s) : (runs s).length ≤ 4096 := by
  have h1 := sep_length (runs_is s).sep
  have h2 := cnt_in s.p s.n
  rw [runs_total] at h1
  have := h.hi
  omega
theorem Good.mem {s : St} (h : Good s) (i : Int) : s.p i = true ↔ Mem (runs s) i := by
  by_cases hi : 0 ≤ i ∧ i < (s.n : Int)
  · exact (runs_is s).mem i hi.1 hi.2
  · constructor
    · intro a; exact absurd (h.inn i a) hi
    · rintro ⟨x, hx, h1⟩; have := (runs_is s).bd x hx; omega

/-! ### what calls do -/
def setP (p : Int → Bool) (f t : Int) (b : Bool) (i : Int) : Bool := if f ≤ i ∧ i < t then b else p i
def set (s : St) (r : Rg) (b : Bool) : St := ⟨s.n, setP s.p r.f r.t b⟩
/-- Are all places of a range free (b), or none? -/
def All (s : St) (r : Rg) (b : Bool) : Prop := ∀ i, r.f ≤ i → i < r.t → s.p i = b
open Classical in
noncomputable def allB (s : St) (r : Rg) (b : Bool) : Bool := decide (All s r b)
theorem allB_true {s : St} {r : Rg} {b : Bool} : allB s r b = true ↔ All s r b := by unfold allB; simp
theorem allB_false {s : St} {r : Rg} {b : Bool} : allB s r b = false ↔ ¬ All s r b := by unfold allB; simp
def mayE (s : St) (r : Rg) : Int := if r.t ≤ r.f then 1 else if r.f < 0 ∨ (s.n : Int) < r.t then 71 else 0
noncomputable def takeE (s : St) (r : Rg) : Int := if mayE s r ≠ 0 then mayE s r else if allB s r true then 0 else 4
noncomputable def takeS (s : St) (r : Rg) : St := if takeE s r = 0 then set s r false else s
noncomputable def giveE (s : St) (r : Rg) : Int := if mayE s r ≠ 0 then mayE s r else if allB s r false then 0 else 3
noncomputable def giveS (s : St) (r : Rg) : St := if giveE s r = 0 then set s r true else s
def wide (k : Int) (x : Rg) : Bool := decide (k ≤ x.t - x.f)
noncomputable def at? (s : St) (k : Int) : Option Rg := if k < 1 then none else (runs s).find? (wide k)
noncomputable def allocE (s : St) (k : Int) : Int := if k < 1 then 1 else match (runs s).find? (wide k) with
  | none => 2
  | some _ => 0
noncomputable def allocR (s : St) (k : Int) : Rg := if k < 1 then ⟨0, 0⟩ else match (runs s).find? (wide k) with
  | none => ⟨0, 0⟩
  | some x => ⟨x.f, x.f + k⟩
noncomputable def allocS (s : St) (k : Int) : St := if k < 1 then s else match (runs s).find? (wide k) with
  | none => s
  | some x => set s ⟨x.f, x.f + k⟩ false
def size0 (n : Int) : Nat := if n < 1 then 1 else if 4096 < n then 4096 else n.toNat
def fresh (n : Int) : St := ⟨size0 n, fun i => decide (0 ≤ i ∧ i < (size0 n : Int))⟩
theorem size0_in (n : Int) : 1 ≤ size0 n ∧ size0 n ≤ 4096 := by
  unfold size0; split
  · omega
  · split <;> omega
theorem Good.fresh (n : Int) : Good (fresh n) := by
  obtain ⟨h1, h2⟩ := size0_in n
  exact ⟨h1, h2, fun i hi => by simpa [Go.Proofs.Ytlffgfkcgldekaa.fresh] using hi⟩
theorem runs_fresh (n : Int) : runs (fresh n) = [⟨0, size0 n⟩] := by
  have h := size0_in n
  refine (runs_eq ⟨sep_one.2 (by show (0 : Int) < size0 n; omega), fun x hx => ?_, fun i h1 h2 => ?_⟩).symm
  · simp at hx; subst hx; exact ⟨Int.le_refl _, Int.le_refl _⟩
  · rw [mem_cons]
    have h2' : i < (size0 n : Int) := h2
    exact ⟨fun _ => .inl ⟨h1, h2'⟩, fun _ => by simp [Go.Proofs.Ytlffgfkcgldekaa.fresh, h1, h2']⟩
theorem set_n (s : St) (r : Rg) (b : Bool) : (set s r b).n = s.n := rfl
theorem mayE_in (s : St) (r : Rg) : mayE s r = 0 ∨ mayE s r = 1 ∨ mayE s r = 71 := by
  unfold mayE; split
  · simp
  · split <;> simp
theorem mayE_zero {s : St} {r : Rg} (h : mayE s r = 0) : r.f < r.t ∧ 0 ≤ r.f ∧ r.t ≤ (s.n : Int) := by
  unfold mayE at h
  split at h
  · omega
  · split at h
    · omega
    · omega
theorem mayE_of {s : St} {r : Rg} (h1 : r.f < r.t) (h2 : 0 ≤ r.f) (h3 : r.t ≤ (s.n : Int)) : mayE s r = 0 := by
  unfold mayE; rw [if_neg (by omega), if_neg (by omega)]
theorem Good.set {s : St} (h : Good s) {r : Rg} (hr : mayE s r = 0) (b : Bool) : Good (set s r b) := by
  obtain ⟨h1, h2, h3⟩ := mayE_zero hr
  refine ⟨h.lo, h.hi, fun i hi => ?_⟩
  simp only [Go.Proofs.Ytlffgfkcgldekaa.set, setP] at hi
  split at hi
  · exact ⟨by omega, by show i < (s.n : Int); omega⟩
  · exact h.inn i hi
theorem takeE_zero {s : St} {r : Rg} : takeE s r = 0 ↔ mayE s r = 0 ∧ All s r true := by
  unfold takeE
  by_cases h : mayE s r = 0
  · rw [if_neg (by omega)]
    cases ha : allB s r true with
    | true => simp [h, allB_true.1 ha]
    | false => simp [allB_false.1 ha]
  · rw [if_pos h]; exact ⟨fun a => absurd a h, fun a => absurd a.1 h⟩
theorem giveE_zero {s : St} {r : Rg} : giveE s r = 0 ↔ mayE s r = 0 ∧ All s r false := by
  unfold giveE
  by_cases h : mayE s r = 0
  · rw [if_neg (by omega)]
    cases ha : allB s r false with
    | true => simp [h, allB_true.1 ha]
    | false => simp [allB_false.1 ha]
  · rw [if_pos h]; exact ⟨fun a => absurd a h, fun a => absurd a.1 h⟩
theorem Good.take {s : St} (h : Good s) (r : Rg) : Good (takeS s r) := by
  unfold takeS; split
  · next e => exact h.set (takeE_zero.1 e).1 _
  · exact h
theorem Good.give {s : St} (h : Good s) (r : Rg) : Good (giveS s r) := by
  unfold giveS; split
  · next e => exact h.set (giveE_zero.1 e).1 _
  · exact h

/-! ### the list of free ranges, searched -/
/-- How many of the ranges end at i or ahead of it: the place of the first one that ends behind it. -/
def pos (l : List Rg) (i : Int) : Nat := (l.takeWhile (fun x => decide (x.t ≤ i))).length
theorem pos_le (l : List Rg) (i : Int) : pos l i ≤ l.length := by
  unfold pos; exact (List.takeWhile_prefix _).length_le
theorem pos_lt : ∀ {l : List Rg} {i : Int} {a : Nat} {x : Rg}, l[a]? = some x → a < pos l i → x.t ≤ i
  | [], i, a, x, h, _ => by simp at h
  | y :: l, i, a, x, h, ha => by
    unfold pos at ha
    rw [List.takeWhile_cons] at ha
    by_cases hy : y.t ≤ i
    · rw [if_pos (by simpa using hy)] at ha
      cases a with
      | zero => simp at h; subst h; exact hy
      | succ a => exact pos_lt (l := l) (a := a) (by simpa using h) (by unfold pos; simpa using ha)
    · rw [if_neg (by simpa using hy)] at ha; simp at ha
theorem pos_ge : ∀ {l : List Rg} (_ : Sep l) {i : Int} {a : Nat} {x : Rg}, l[a]? = some x → pos l i ≤ a → i < x.t
  | [], _, i, a, x, h, _ => by simp at h
  | y :: l, hs, i, a, x, h, ha => by
    have hs' := sep_cons.1 hs
    unfold pos at ha
    rw [List.takeWhile_cons] at ha
    by_cases hy : y.t ≤ i
    · rw [if_pos (by simpa using hy)] at ha
      cases a with
      | zero => simp at ha
      | succ a => exact pos_ge hs'.2.1 (a := a) (by simpa using h) (by unfold pos; simpa using ha)
    · cases a with
      | zero => simp at h; subst h; omega
      | succ a =>
        have hx : x ∈ l := List.mem_of_getElem? (show l[a]? = some x by simpa using h)
        have h1 := hs'.2.2 x hx
        have h2 := hs'.2.1.pos x hx
        omega
/-- The only place that parts them so. -/
theorem pos_eq {l : List Rg} (hs : Sep l) {i : Int} {k : Nat} (hk : k ≤ l.length) (h1 : ∀ a x, l[a]? = some x → a < k → x.t ≤ i) (h2 : ∀ a x, l[a]? = some x → k ≤ a → i < x.t) : k = pos l i := by
  have hp := pos_le l i
  rcases Nat.lt_trichotomy k (pos l i) with h | h | h
  · have e := List.getElem?_eq_getElem (show k < l.length by omega)
    have a := h2 k _ e (Nat.le_refl _)
    have b := pos_lt e h
    omega
  · exact h
  · have e := List.getElem?_eq_getElem (show pos l i < l.length by omega)
    have a := h1 (pos l i) _ e h
    have b := pos_ge hs (i := i) e (Nat.le_refl _)
    omega
/-- Whether the range at k has i. -/
def holdsB (l : List Rg) (k : Nat) (i : Int) : Bool := match l[k]? with
  | none => false
  | some x => decide (x.f ≤ i)
theorem holds_is {s : St} (h : Good s) (i : Int) : holdsB (runs s) (pos (runs s) i) i = s.p i := by
  have hs := (runs_is s).sep
  unfold holdsB
  split
  · next hk =>
    cases hp : s.p i with
    | false => rfl
    | true =>
      obtain ⟨x, hx, h1⟩ := (h.mem i).1 hp
      obtain ⟨a, ha⟩ := List.getElem?_of_mem hx
      have : a < (runs s).length := (List.getElem?_eq_some_iff.1 ha).1
      have h2 := pos_lt (i := i) ha (by have := List.getElem?_eq_none_iff.1 hk; omega)
      omega
  · next x hk =>
    have hi := pos_ge hs (i := i) hk (Nat.le_refl _)
    rw [Bool.eq_iff_iff, decide_eq_true_iff, h.mem i]
    constructor
    · intro hf; exact ⟨x, List.mem_of_getElem? hk, hf, hi⟩
    · rintro ⟨y, hy, h1⟩
      obtain ⟨a, ha⟩ := List.getElem?_of_mem hy
      rcases Nat.lt_trichotomy a (pos (runs s) i) with h2 | h2 | h2
      · have := pos_lt ha h2; omega
      · rw [h2, hk] at ha; cases ha; exact h1.1
      · exfalso
        obtain ⟨ha1, ha2⟩ := List.getElem?_eq_some_iff.1 ha
        obtain ⟨hk1, hk2⟩ := List.getElem?_eq_some_iff.1 hk
        have := List.pairwise_iff_getElem.1 hs.ap _ _ hk1 ha1 h2
        rw [hk2, ha2] at this
        omega
end Go.Proofs.Ytlffgfkcgldekaa
