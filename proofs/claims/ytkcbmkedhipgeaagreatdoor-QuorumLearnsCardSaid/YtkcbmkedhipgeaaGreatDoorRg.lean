/-
  A group of nodes as plain data: what is asked, what is accepted, what a log has; why in no slot two values are chosen.

  A group of nodes as plain data: what its calls leave; in no slot two values are chosen.

  A map of sets of nodes by votes, as its entries in the order in which they were laid: what its operations leave; a map of maps by slots.

  A range over a map of sets of nodes by votes, also one whose rounds turn and drop the entry that has come; the map of such maps, by slots.
-/
import Derived.Test.YtkcbmkedhipgeaaGreatDoorCho
import Derived.Test.YtkcbmkedhipgeaaGreatDoorNumb
import Derived.Maps.RangeWalk
import Derived.DeepKeys5
import Derived.KernelRfl
import Derived.WideKeyEntry
namespace Go.Proofs.YtkcbmkedhipgeaaGreatDoor
open Go.RowKit

/-! ### counting -/
def cntP (n : Nat) (p : Nat → Bool) : Nat := (List.range n).countP p
theorem cntP_succ (n : Nat) (p : Nat → Bool) : cntP (n + 1) p = cntP n p + (if p n then 1 else 0) := by
  unfold cntP; rw [List.range_succ, List.countP_append]; simp [List.countP_cons]
theorem cntP_le (n : Nat) (p : Nat → Bool) : cntP n p ≤ n := by
  have := List.countP_le_length (p := p) (l := List.range n)
  rw [List.length_range] at this
  exact this
theorem cntP_mono {n : Nat} {p q : Nat → Bool} (h : ∀ j, j < n → p j = true → q j = true) : cntP n p ≤ cntP n q := by
  unfold cntP
  exact List.countP_mono_left fun x hx hp => h x (List.mem_range.1 hx) hp
theorem cntP_congr {n : Nat} {p q : Nat → Bool} (h : ∀ j, j < n → p j = q j) : cntP n p = cntP n q :=
  Nat.le_antisymm (cntP_mono fun j hj e => by rw [← h j hj]; exact e) (cntP_mono fun j hj e => by rw [h j hj]; exact e)
theorem cntP_both {n : Nat} {p q : Nat → Bool} (h : ∀ j, j < n → p j = true → q j = true → False) : cntP n p + cntP n q ≤ n := by
  induction n with
  | zero => simp [cntP]
  | succ n ih =>
    have h1 := ih fun j hj => h j (by omega)
    have h2 := h n (by omega)
    rw [cntP_succ, cntP_succ]
    cases hp : p n <;> cases hq : q n
    · simp; omega
    · simp; omega
    · simp; omega
    · exact (h2 hp hq).elim
/-- Two majorities have one in common. -/
theorem meet {n : Nat} {p q : Nat → Bool} (hp : n < 2 * cntP n p) (hq : n < 2 * cntP n q) : ∃ j, j < n ∧ p j = true ∧ q j = true := by
  apply Classical.byContradiction
  intro hno
  have := cntP_both (n := n) (p := p) (q := q) fun j hj h1 h2 => hno ⟨j, hj, h1, h2⟩
  omega
theorem some_of {n : Nat} {p : Nat → Bool} (hp : n < 2 * cntP n p) : ∃ j, j < n ∧ p j = true := by
  obtain ⟨j, h1, h2, -⟩ := meet hp hp
  exact ⟨j, h1, h2⟩

/-! ### sets of nodes, as bits -/
def hasB (m j : Nat) : Bool := m.testBit j
def clr (m i : Nat) : Nat := m &&& (31 ^^^ (1 <<< i))
def addB (m i : Nat) : Nat := m ||| (1 <<< i)
def cntB (m : Nat) : Nat := cntP 5 (hasB m)
theorem clr_has : ∀ m, m < 32 → ∀ i, i < 5 → ∀ j, j < 5 → hasB (clr m i) j = (hasB m j && !decide (j = i)) := by decide +kernel
theorem clr_lt : ∀ m, m < 32 → ∀ i, i < 5 → clr m i < 32 := by decide +kernel
theorem add_has : ∀ m, m < 32 → ∀ i, i < 5 → ∀ j, j < 5 → hasB (addB m i) j = (hasB m j || decide (j = i)) := by decide +kernel
theorem add_lt : ∀ m, m < 32 → ∀ i, i < 5 → addB m i < 32 := by decide +kernel
theorem has_zero : ∀ m, m < 32 → m ≠ 0 → ∃ j, j < 5 ∧ hasB m j = true := by decide +kernel

/-! ### who accepted what, as the program notes it -/
abbrev Row := List (V × Nat)
/-- Has one of them a majority? -/
def bigR (n : Nat) (T : Row) : Bool := T.any fun p => decide (n < 2 * cntB p.2)
/-- Node i's bit goes; what has none left goes. -/
def stripR (i : Nat) (T : Row) : Row := T.filterMap fun p => if clr p.2 i = 0 then none else some (p.1, clr p.2 i)
/-- The bit is set at v. -/
def putR (i : Nat) (v : V) : Row → Row
  | [] => [(v, 1 <<< i)]
  | p :: T => if p.1 = v then (v, addB p.2 i) :: T else p :: putR i v T
def noteR (n i : Nat) (v : V) (T : Row) : Row := if bigR n T then T else putR i v (stripR i T)
/-- What Chosen answers. -/
def chosR (n : Nat) (T : Row) : Option V := (T.find? fun p => decide (n < 2 * cntB p.2)).map Prod.fst
/-- Each has bits of its own, at least one; none stands twice. -/
structure GoodR (T : Row) : Prop where
  lt : ∀ p ∈ T, p.2 < 32 ∧ p.2 ≠ 0
  apart : T.Pairwise fun p q => p.1 ≠ q.1 ∧ ∀ j, j < 5 → hasB p.2 j = true → hasB q.2 j = false
theorem GoodR.nil : GoodR [] := ⟨fun p hp => by simp at hp, List.Pairwise.nil⟩
theorem pair_eq {T : Row} (h : T.Pairwise fun p q => p.1 ≠ q.1 ∧ ∀ j, j < 5 → hasB p.2 j = true → hasB q.2 j = false) {p q : V × Nat} (hp : p ∈ T) (hq : q ∈ T) : (p.1 = q.1 → p = q) ∧ ∀ j, j < 5 → hasB p.2 j = true → hasB q.2 j = true → p = q := by
  induction T with
  | nil => simp at hp
  | cons r T ih =>
    obtain ⟨h1, h2⟩ := List.pairwise_cons.1 h
    rcases List.mem_cons.1 hp with e1 | hp1
    · rcases List.mem_cons.1 hq with e2 | hq1
      · exact ⟨fun _ => e1.trans e2.symm, fun _ _ _ _ => e1.trans e2.symm⟩
      · rw [e1]
        refine ⟨fun e => absurd e (h1 q hq1).1, fun j hj a b => ?_⟩
        rw [(h1 q hq1).2 j hj a] at b; cases b
    · rcases List.mem_cons.1 hq with e2 | hq1
      · rw [e2]
        refine ⟨fun e => absurd e.symm (h1 p hp1).1, fun j hj a b => ?_⟩
        rw [(h1 p hp1).2 j hj b] at a; cases a
      · exact ih h2 hp1 hq1
theorem mem_strip {i : Nat} {T : Row} {u : V} {m : Nat} : (u, m) ∈ stripR i T ↔ ∃ m', (u, m') ∈ T ∧ clr m' i = m ∧ m ≠ 0 := by
  unfold stripR
  rw [List.mem_filterMap]
  constructor
  · rintro ⟨⟨u', m'⟩, h1, h2⟩
    simp only at h2
    split at h2
    · cases h2
    · rename_i h0
      injection h2 with h2
      injection h2 with h2 h3
      subst h2
      exact ⟨m', h1, h3, by rw [← h3]; exact h0⟩
  · rintro ⟨m', h1, rfl, h0⟩
    exact ⟨(u, m'), h1, by simp only; rw [if_neg h0]⟩
theorem strip_lt {i : Nat} (hi : i < 5) {T : Row} (h : GoodR T) : ∀ p ∈ stripR i T, p.2 < 32 ∧ p.2 ≠ 0 := by
  rintro ⟨u, m⟩ hp
  obtain ⟨m', h1, rfl, h0⟩ := mem_strip.1 hp
  exact ⟨clr_lt m' (h.lt _ h1).1 i hi, h0⟩
theorem strip_good {i : Nat} (hi : i < 5) {T : Row} (h : GoodR T) : GoodR (stripR i T) := by
  refine ⟨strip_lt hi h, ?_⟩
  unfold stripR
  have hl := h.lt
  have ha := h.apart
  clear h
  induction T with
  | nil => exact List.Pairwise.nil
  | cons r T ih =>
    obtain ⟨h1, h2⟩ := List.pairwise_cons.1 ha
    have ih' := ih (fun p hp => hl p (List.mem_cons_of_mem _ hp)) h2
    rw [List.filterMap_cons]
    by_cases h0 : clr r.2 i = 0
    · rw [if_pos h0]; exact ih'
    · rw [if_neg h0]
      refine List.pairwise_cons.2 ⟨fun q hq => ?_, ih'⟩
      obtain ⟨u, m⟩ := q
      obtain ⟨m', g1, rfl, g0⟩ := mem_strip.1 (show (u, m) ∈ stripR i T from hq)
      refine ⟨(h1 _ g1).1, fun j hj hb => ?_⟩
      have k1 := (hl r List.mem_cons_self).1
      have k2 := (hl _ (List.mem_cons_of_mem _ g1)).1
      show hasB (clr m' i) j = false
      rw [clr_has r.2 k1 i hi j hj] at hb
      rw [clr_has m' k2 i hi j hj]
      have := (h1 _ g1).2 j hj (by cases hh : hasB r.2 j <;> simp_all)
      rw [this]; rfl
theorem one_lt : ∀ i, i < 5 → 1 <<< i < 32 ∧ 1 <<< i ≠ 0 := by decide +kernel
theorem one_has : ∀ i, i < 5 → ∀ j, j < 5 → hasB (1 <<< i) j = decide (j = i) := by decide +kernel
theorem add_ne : ∀ m, m < 32 → ∀ i, i < 5 → addB m i ≠ 0 := by decide +kernel
/-- Whose bits stand where, behind a put: none had i's bit. -/
theorem mem_put {i : Nat} (hi : i < 5) {v : V} {T : Row} (hl : ∀ p ∈ T, p.2 < 32) (hT : T.Pairwise fun p q => p.1 ≠ q.1) {u : V} {j : Nat} (hj : j < 5) :
    (∃ m, (u, m) ∈ putR i v T ∧ hasB m j = true) ↔ ((u = v ∧ j = i) ∨ ∃ m, (u, m) ∈ T ∧ hasB m j = true) := by
  induction T with
  | nil =>
    simp only [putR, List.mem_singleton, Prod.mk.injEq]
    constructor
    · rintro ⟨m, ⟨rfl, rfl⟩, h⟩
      rw [one_has i hi j hj] at h
      exact .inl ⟨rfl, by simpa using h⟩
    · rintro (⟨rfl, rfl⟩ | ⟨m, h, _⟩)
      · exact ⟨_, ⟨rfl, rfl⟩, by rw [one_has j hi j hj]; simp⟩
      · simp at h
  | cons r T ih =>
    obtain ⟨h1, h2⟩ := List.pairwise_cons.1 hT
    have ih' := ih (fun p hp => hl p (List.mem_cons_of_mem _ hp)) h2
    have hr := hl r List.mem_cons_self
    rw [putR]
    by_cases e : r.1 = v
    · rw [if_pos e]
      constructor
      · rintro ⟨m, hm, hb⟩
        rcases List.mem_cons.1 hm with hm | hm
        · injection hm with e1 e2
          subst e2
          rw [add_has r.2 hr i hi j hj] at hb
          rcases Bool.or_eq_true_iff.1 hb with hb | hb
          · exact .inr ⟨r.2, List.mem_cons.2 (.inl (by rw [e1, ← e])), hb⟩
          · exact .inl ⟨e1, by simpa using hb⟩
        · exact .inr ⟨m, List.mem_cons_of_mem _ hm, hb⟩
      · rintro (⟨rfl, rfl⟩ | ⟨m, hm, hb⟩)
        · exact ⟨_, List.mem_cons_self, by rw [add_has r.2 hr j hi j hj]; simp⟩
        · rcases List.mem_cons.1 hm with hm | hm
          · refine ⟨addB r.2 i, List.mem_cons.2 (.inl ?_), ?_⟩
            · rw [← e, ← hm]
            · rw [← hm] at hr ⊢
              rw [add_has m hr i hi j hj, hb]; rfl
          · exact ⟨m, List.mem_cons_of_mem _ hm, hb⟩
    · rw [if_neg e]
      constructor
      · rintro ⟨m, hm, hb⟩
        rcases List.mem_cons.1 hm with hm | hm
        · exact .inr ⟨m, List.mem_cons.2 (.inl hm), hb⟩
        · rcases ih'.1 ⟨m, hm, hb⟩ with h | ⟨m', h, hb'⟩
          · exact .inl h
          · exact .inr ⟨m', List.mem_cons_of_mem _ h, hb'⟩
      · rintro (h | ⟨m, hm, hb⟩)
        · obtain ⟨m, hm, hb⟩ := ih'.2 (.inl h)
          exact ⟨m, List.mem_cons_of_mem _ hm, hb⟩
        · rcases List.mem_cons.1 hm with hm | hm
          · exact ⟨m, List.mem_cons.2 (.inl hm), hb⟩
          · obtain ⟨m', hm', hb'⟩ := ih'.2 (.inr ⟨m, hm, hb⟩)
            exact ⟨m', List.mem_cons_of_mem _ hm', hb'⟩
theorem put_keys {i : Nat} {v : V} {T : Row} {p : V × Nat} (h : p ∈ putR i v T) : p.1 = v ∨ p ∈ T := by
  induction T with
  | nil => simp only [putR, List.mem_singleton] at h; rw [h]; exact .inl rfl
  | cons r T ih =>
    rw [putR] at h
    split at h
    · rcases List.mem_cons.1 h with rfl | h
      · exact .inl rfl
      · exact .inr (List.mem_cons_of_mem _ h)
    · rcases List.mem_cons.1 h with rfl | h
      · exact .inr List.mem_cons_self
      · rcases ih h with h | h
        · exact .inl h
        · exact .inr (List.mem_cons_of_mem _ h)
theorem put_lt {i : Nat} (hi : i < 5) {v : V} {T : Row} (hl : ∀ p ∈ T, p.2 < 32 ∧ p.2 ≠ 0) : ∀ p ∈ putR i v T, p.2 < 32 ∧ p.2 ≠ 0 := by
  induction T with
  | nil => intro p hp; simp only [putR, List.mem_singleton] at hp; rw [hp]; exact one_lt i hi
  | cons r T ih =>
    intro p hp
    rw [putR] at hp
    have hr := hl r List.mem_cons_self
    split at hp
    · rcases List.mem_cons.1 hp with rfl | hp
      · exact ⟨add_lt r.2 hr.1 i hi, add_ne r.2 hr.1 i hi⟩
      · exact hl p (List.mem_cons_of_mem _ hp)
    · rcases List.mem_cons.1 hp with rfl | hp
      · exact hr
      · exact ih (fun q hq => hl q (List.mem_cons_of_mem _ hq)) p hp
/-- A put where no one has i's bit. -/
theorem put_good {i : Nat} (hi : i < 5) {v : V} {T : Row} (h : GoodR T) (h0 : ∀ p ∈ T, hasB p.2 i = false) : GoodR (putR i v T) := by
  refine ⟨put_lt hi h.lt, ?_⟩
  have hl := h.lt
  have ha := h.apart
  clear h
  induction T with
  | nil => exact List.pairwise_singleton _ _
  | cons r T ih =>
    obtain ⟨h1, h2⟩ := List.pairwise_cons.1 ha
    have hr := hl r List.mem_cons_self
    have ih' := ih (fun p hp => h0 p (List.mem_cons_of_mem _ hp)) (fun p hp => hl p (List.mem_cons_of_mem _ hp)) h2
    rw [putR]
    by_cases e : r.1 = v
    · rw [if_pos e]
      refine List.pairwise_cons.2 ⟨fun q hq => ⟨by rw [← e]; exact (h1 q hq).1, fun j hj hb => ?_⟩, h2⟩
      rw [add_has r.2 hr.1 i hi j hj] at hb
      rcases Bool.or_eq_true_iff.1 hb with hb | hb
      · exact (h1 q hq).2 j hj hb
      · rw [show j = i by simpa using hb]; exact h0 q (List.mem_cons_of_mem _ hq)
    · rw [if_neg e]
      refine List.pairwise_cons.2 ⟨fun q hq => ?_, ih'⟩
      refine ⟨fun e1 => ?_, fun j hj hb => ?_⟩
      · rcases put_keys hq with h | h
        · exact e (e1.trans h)
        · exact (h1 q h).1 e1
      · cases hq' : hasB q.2 j with
        | false => rfl
        | true =>
          obtain ⟨qu, qm⟩ := q
          have hk : T.Pairwise fun p q => p.1 ≠ q.1 := h2.imp fun h => h.1
          rcases (mem_put hi (fun p hp => (hl p (List.mem_cons_of_mem _ hp)).1) hk (u := qu) hj).1 ⟨qm, hq, hq'⟩ with ⟨-, rfl⟩ | ⟨m', hm', hb'⟩
          · rw [h0 r List.mem_cons_self] at hb; cases hb
          · rw [(h1 _ hm').2 j hj hb] at hb'; cases hb'
theorem note_good {n i : Nat} (hi : i < 5) (v : V) {T : Row} (h : GoodR T) : GoodR (noteR n i v T) := by
  unfold noteR
  split
  · exact h
  · refine put_good hi (strip_good hi h) ?_
    rintro ⟨u, m⟩ hp
    obtain ⟨m', h1, rfl, -⟩ := mem_strip.1 hp
    show hasB (clr m' i) i = false
    rw [clr_has m' (h.lt _ h1).1 i hi i hi]; simp
/-- Whose bits stand where, behind a note. -/
theorem mem_note {n i : Nat} (hi : i < 5) {v : V} {T : Row} (h : GoodR T) (hn : bigR n T = false) {u : V} {j : Nat} (hj : j < 5) :
    (∃ m, (u, m) ∈ noteR n i v T ∧ hasB m j = true) ↔ (if j = i then u = v else ∃ m, (u, m) ∈ T ∧ hasB m j = true) := by
  unfold noteR
  rw [if_neg (by simp [hn])]
  have hk : (stripR i T).Pairwise fun p q => p.1 ≠ q.1 := (strip_good hi h).apart.imp fun h => h.1
  rw [mem_put hi (fun p hp => (strip_lt hi h p hp).1) hk hj]
  have key : (∃ m, (u, m) ∈ stripR i T ∧ hasB m j = true) ↔ (j ≠ i ∧ ∃ m, (u, m) ∈ T ∧ hasB m j = true) := by
    constructor
    · rintro ⟨m, hm, hb⟩
      obtain ⟨m', h1, rfl, -⟩ := mem_strip.1 hm
      rw [clr_has m' (h.lt _ h1).1 i hi j hj] at hb
      simp only [Bool.and_eq_true, Bool.not_eq_true', decide_eq_false_iff_not] at hb
      exact ⟨hb.2, m', h1, hb.1⟩
    · rintro ⟨hne, m, hm, hb⟩
      have hb' : hasB (clr m i) j = true := by rw [clr_has m (h.lt _ hm).1 i hi j hj, hb]; simp [hne]
      refine ⟨clr m i, mem_strip.2 ⟨m, hm, rfl, fun e => ?_⟩, hb'⟩
      rw [e] at hb'
      simp [hasB] at hb'
  rw [key]
  by_cases e : j = i
  · rw [if_pos e]
    constructor
    · rintro (⟨h, -⟩ | ⟨h, -⟩)
      · exact h
      · exact absurd e h
    · intro h; exact .inl ⟨h, e⟩
  · rw [if_neg e]
    constructor
    · rintro (⟨-, h⟩ | ⟨-, h⟩)
      · exact absurd h e
      · exact h
    · intro h; exact .inr ⟨e, h⟩
end Go.Proofs.YtkcbmkedhipgeaaGreatDoor

namespace Go.Proofs.YtkcbmkedhipgeaaGreatDoor
open Go.RowKit

/-- A node: whether it is up, its acceptor, its log, its round. -/
structure Nd where
  up : Bool
  A : Acc
  log : List ByteArray
  rd : Int
def Nd.new : Nd := ⟨true, Acc.new, [], 0⟩
/-- A group: how many, which; all votes that were given; what the program notes of them, by slots. -/
structure Gp where
  n : Nat
  nd : Nat → Nd
  all : List (Nat × V)
  tab : Int → Row
/-- At i, what is told there. -/
def at1 {α : Type} (f : Nat → α) (i : Nat) (x : α) : Nat → α := fun j => if j = i then x else f j
theorem at1_same {α : Type} (f : Nat → α) (i : Nat) (x : α) : at1 f i x i = x := if_pos rfl
theorem at1_other {α : Type} (f : Nat → α) {i j : Nat} (x : α) (h : j ≠ i) : at1 f i x j = f j := if_neg h
def Gp.set (S : Gp) (i : Nat) (x : Nd) : Gp := { S with nd := at1 S.nd i x }
def Nd.setA (x : Nd) (A : Acc) : Nd := { x with A := A }

/-- What is known while nodes are asked: the group, what was told, the highest promise that was heard. -/
structure Rnd where
  S : Gp
  told : List (List V)
  hi : Int
/-- Node i is asked to prepare. -/
def ask1 (b sl : Int) (L : Nat) (R : Rnd) (i : Nat) : Rnd :=
  if (R.S.nd i).up = false ∨ L.testBit (4 * i) = true then R
  else if L.testBit (4 * i + 1) = true then { R with S := R.S.set i ((R.S.nd i).setA ((R.S.nd i).A.prep b)) }
  else ⟨R.S.set i ((R.S.nd i).setA ((R.S.nd i).A.prep b)), if prepE (R.S.nd i).A b = 0 then R.told ++ [prepL (R.S.nd i).A b sl] else R.told, max R.hi ((R.S.nd i).A.prep b).p⟩
/-- Node i votes, and it is noted. -/
def accS (S : Gp) (i : Nat) (v : V) : Gp :=
  if accE (S.nd i).A v = 0 then { S with nd := at1 S.nd i ((S.nd i).setA ((S.nd i).A.accept v)), all := S.all ++ [(i, v)], tab := fun s => if s = v.s then noteR S.n i v (S.tab s) else S.tab s } else S
/-- Node i is asked to accept. -/
def ask2 (v : V) (L : Nat) (R : Rnd) (i : Nat) : Rnd :=
  if (R.S.nd i).up = false ∨ L.testBit (4 * i + 2) = true then R
  else if L.testBit (4 * i + 3) = true then { R with S := accS R.S i v }
  else ⟨accS R.S i v, if accE (R.S.nd i).A v = 0 then R.told ++ [[]] else R.told, max R.hi ((R.S.nd i).A.accept v).p⟩
/-- Nodes 0 to k - 1 are asked. -/
def goes (f : Rnd → Nat → Rnd) (R : Rnd) : Nat → Rnd
  | 0 => R
  | k + 1 => f (goes f R k) k
/-- The value that is asked for. -/
def valOf (told : List (List V)) (sl : Int) (x : ByteArray) : ByteArray := match cho told.flatten sl with
  | some v => v.x
  | none => x
def Gp.has (S : Gp) (i : Int) : Bool := decide (0 ≤ i ∧ i < S.n)
/-- Node k's ballot, its slot, and what is known behind the first round, and the second one. -/
def balOf (S : Gp) (k : Nat) : Int := numV (S.nd k).rd k
def slotOf (S : Gp) (k : Nat) : Int := ((S.nd k).log.length : Nat)
def rnd1 (S : Gp) (k : Nat) (L : Nat) : Rnd := goes (ask1 (balOf S k) (slotOf S k) L) ⟨S, [], 0⟩ S.n
def voteOf (S : Gp) (k : Nat) (x : ByteArray) (L : Nat) : V := ⟨slotOf S k, balOf S k, valOf (rnd1 S k L).told (slotOf S k) x⟩
def rnd2 (S : Gp) (k : Nat) (x : ByteArray) (L : Nat) : Rnd := goes (ask2 (voteOf S k x L) L) ⟨(rnd1 S k L).S, [], 0⟩ S.n
def nextR (b h : Int) : Int := ownR (max b h) + 1
def Gp.setRd (S : Gp) (k : Nat) (r : Int) : Gp := S.set k { S.nd k with rd := r }
def Gp.push (S : Gp) (k : Nat) (x : ByteArray) : Gp := S.set k { S.nd k with log := (S.nd k).log ++ [x] }
/-- What is wrong with a proposal. -/
def refE (S : Gp) (i : Int) (x : ByteArray) : Int :=
  if S.has i = false then 3 else if (S.nd i.toNat).up = false then 70 else if 1024 < x.size then 11 else if 4096 ≤ (S.nd i.toNat).log.length then 2 else numR (S.nd i.toNat).rd i
/-- What Propose answers, and leaves. -/
def proE (S : Gp) (i : Int) (x : ByteArray) (L : Nat) : Int × ByteArray × Int :=
  if refE S i x ≠ 0 then (0, ⟨#[]⟩, refE S i x)
  else if 2 * (rnd1 S i.toNat L).told.length ≤ S.n then (0, ⟨#[]⟩, 110)
  else if 2 * (rnd2 S i.toNat x L).told.length ≤ S.n then (0, ⟨#[]⟩, 110)
  else (slotOf S i.toNat, (voteOf S i.toNat x L).x, 0)
def proS (S : Gp) (i : Int) (x : ByteArray) (L : Nat) : Gp :=
  if refE S i x ≠ 0 then S
  else if 2 * (rnd1 S i.toNat L).told.length ≤ S.n then (rnd1 S i.toNat L).S.setRd i.toNat (nextR (balOf S i.toNat) (rnd1 S i.toNat L).hi)
  else if 2 * (rnd2 S i.toNat x L).told.length ≤ S.n then (rnd2 S i.toNat x L).S.setRd i.toNat (nextR (balOf S i.toNat) (max (rnd1 S i.toNat L).hi (rnd2 S i.toNat x L).hi))
  else ((rnd2 S i.toNat x L).S.push i.toNat (voteOf S i.toNat x L).x).setRd i.toNat (nextR (balOf S i.toNat) (max (rnd1 S i.toNat L).hi (rnd2 S i.toNat x L).hi))
/-- What Learn answers, and leaves. -/
def leaE (S : Gp) (i j : Int) : Int × Int :=
  if S.has i = false ∨ S.has j = false then (0, 3) else if (S.nd i.toNat).up = false ∨ (S.nd j.toNat).up = false then (0, 70)
  else (((S.nd j.toNat).log.length - (S.nd i.toNat).log.length : Nat), 0)
def leaS (S : Gp) (i j : Int) : Gp :=
  if (leaE S i j).2 = 0 ∧ (S.nd i.toNat).log.length < (S.nd j.toNat).log.length then S.set i.toNat { S.nd i.toNat with log := (S.nd j.toNat).log } else S
def setE (S : Gp) (i : Int) : Int := if S.has i = false then 3 else 0
def setS (S : Gp) (i : Int) (u : Bool) : Gp := if S.has i = false then S else S.set i.toNat { S.nd i.toNat with up := u }
/-- What Log, and Chosen, answer. -/
def logOf (S : Gp) (i : Int) : List ByteArray := if S.has i then (S.nd i.toNat).log else []
def choOf (S : Gp) (s : Int) : ByteArray × Bool := match chosR S.n (S.tab s) with
  | some v => (v.x, true)
  | none => (⟨#[]⟩, false)

/-! ### who voted for what -/
def votB (all : List (Nat × V)) (v : V) (j : Nat) : Bool := decide ((j, v) ∈ all)
def Maj (n : Nat) (all : List (Nat × V)) (v : V) : Prop := n < 2 * cntP n (votB all v)
theorem Maj.more {n : Nat} {all all' : List (Nat × V)} {v : V} (h : Maj n all v) (hs : ∀ j, (j, v) ∈ all → (j, v) ∈ all') : Maj n all' v := by
  have := cntP_mono (n := n) (p := votB all v) (q := votB all' v) fun j _ hp => by
    unfold votB at hp ⊢
    exact decide_eq_true (hs j (of_decide_eq_true hp))
  unfold Maj at h ⊢
  omega
theorem Maj.some {n : Nat} {all : List (Nat × V)} {v : V} (h : Maj n all v) : ∃ j, j < n ∧ (j, v) ∈ all := by
  obtain ⟨j, hj, hv⟩ := some_of h
  exact ⟨j, hj, of_decide_eq_true hv⟩
theorem lk_self {lo : Int} {l : List V} (h : Srt lo l) {v : V} (hv : v ∈ l) : lk l v.s = some v := by
  induction l generalizing lo with
  | nil => cases hv
  | cons u l ih =>
    rw [lk_cons]
    rcases List.mem_cons.1 hv with rfl | hv
    · rw [if_pos rfl]
    · have := (h.2.2.mem v hv).1
      rw [if_neg (by omega)]
      exact ih h.2.2 hv
theorem fold_mem (sl : Int) : ∀ (l : List V) (o : Option V) (x : V), l.foldl (stepC sl) o = some x → o = some x ∨ (x ∈ l ∧ x.s = sl)
  | [], o, x, h => .inl h
  | y :: l, o, x, h => by
    rcases fold_mem sl l (stepC sl o y) x h with h | ⟨h1, h2⟩
    · unfold stepC at h
      split at h
      · rename_i hs
        cases o with
        | none => injection h with h; subst h; exact .inr ⟨List.mem_cons_self, hs⟩
        | some u =>
          simp only at h
          split at h
          · injection h with h; subst h; exact .inr ⟨List.mem_cons_self, hs⟩
          · exact .inl h
      · exact .inl h
    · exact .inr ⟨List.mem_cons_of_mem _ h1, h2⟩
theorem cho_mem {l : List V} {sl : Int} {x : V} (h : cho l sl = some x) : x ∈ l ∧ x.s = sl := by
  rcases fold_mem sl l none x h with h | h
  · cases h
  · exact h

/-! ### what always holds -/
/-- What holds of a group, whatever is lost; f: of each node, a round that it has not begun. -/
structure Inv (S : Gp) (f : Nat → Int) : Prop where
  n0 : 1 ≤ S.n
  n5 : S.n ≤ 5
  good : ∀ i, i < S.n → (S.nd i).A.Good
  g1 : ∀ i v, (i, v) ∈ S.all → i < S.n ∧ ∃ u, lk (S.nd i).A.l v.s = some u ∧ v.b ≤ u.b ∧ (v.b = u.b → v = u)
  g2 : ∀ i, i < S.n → ∀ s u, lk (S.nd i).A.l s = some u → (i, u) ∈ S.all
  g4 : ∀ v, Maj S.n S.all v → ∀ j u, (j, u) ∈ S.all → u.s = v.s → v.b ≤ u.b → u.x = v.x
  g5 : ∀ i v, (i, v) ∈ S.all → 0 ≤ ownN v.b ∧ ownN v.b < S.n ∧ ownR v.b < f (ownN v.b).toNat
  g6 : ∀ i v, (i, v) ∈ S.all → S.n < 2 * cntP S.n fun j => decide (v.b ≤ (S.nd j).A.p)
  g7 : ∀ k, k < S.n → ∀ (j : Nat) x, (S.nd k).log[j]? = some x → ∃ v, Maj S.n S.all v ∧ v.s = (j : Int) ∧ v.x = x
  t0 : ∀ s, GoodR (S.tab s)
  t1 : ∀ s u m, (u, m) ∈ S.tab s → u.s = s ∧ ∀ j, j < 5 → hasB m j = true → j < S.n ∧ (j, u) ∈ S.all
  t2 : ∀ s, bigR S.n (S.tab s) = false → ∀ i, i < S.n → ∀ u, (∃ m, (u, m) ∈ S.tab s ∧ hasB m i = true) ↔ lk (S.nd i).A.l s = some u
  t3 : ∀ v, Maj S.n S.all v → bigR S.n (S.tab v.s) = true
theorem new_inv (n : Nat) (h0 : 1 ≤ n) (h5 : n ≤ 5) (f : Nat → Int) : Inv ⟨n, fun _ => Nd.new, [], fun _ => []⟩ f := by
  have hm : ∀ v, ¬ Maj n [] v := fun v h => by
    obtain ⟨j, -, h⟩ := h.some
    cases h
  exact {
    n0 := h0
    n5 := h5
    good := fun i _ => Acc.Good.new
    g1 := fun i v h => by cases h
    g2 := fun i _ s u h => by cases h
    g4 := fun v h => (hm v h).elim
    g5 := fun i v h => by cases h
    g6 := fun i v h => by cases h
    g7 := fun k _ j x h => by simp [Nd.new] at h
    t0 := fun _ => GoodR.nil
    t1 := fun s u m h => by cases h
    t2 := fun s _ i _ u => Iff.intro (fun h => by obtain ⟨m, h, _⟩ := h; cases h) (fun h => by cases h)
    t3 := fun v h => (hm v h).elim }
/-- Two votes of a slot that have a majority have one value. -/
theorem Inv.one {S : Gp} {f : Nat → Int} (h : Inv S f) {v u : V} (hv : Maj S.n S.all v) (hu : Maj S.n S.all u) (hs : v.s = u.s) : v.x = u.x := by
  obtain ⟨i, -, hi⟩ := hv.some
  obtain ⟨j, -, hj⟩ := hu.some
  by_cases e : v.b ≤ u.b
  · exact (h.g4 v hv j u hj hs.symm e).symm
  · exact h.g4 u hu i v hi hs (by omega)
/-- What the program has noted of a majority is one. -/
theorem Inv.big {S : Gp} {f : Nat → Int} (h : Inv S f) {s : Int} {u : V} {m : Nat} (hp : (u, m) ∈ S.tab s) (hb : S.n < 2 * cntB m) : Maj S.n S.all u ∧ u.s = s := by
  obtain ⟨h1, h2⟩ := h.t1 s u m hp
  refine ⟨?_, h1⟩
  have e : cntB m ≤ cntP S.n (votB S.all u) := by
    unfold cntB
    have k : cntP 5 (hasB m) ≤ cntP S.n (hasB m) := by
      have hn := h.n5
      have step : ∀ d, S.n + d ≤ 5 → cntP (S.n + d) (hasB m) ≤ cntP S.n (hasB m) := by
        intro d
        induction d with
        | zero => intro _; exact Nat.le_refl _
        | succ d ih =>
          intro hd
          have := ih (by omega)
          rw [← Nat.add_assoc, cntP_succ]
          cases hh : hasB m (S.n + d) with
          | false => simp; omega
          | true => have := (h2 _ (by omega) hh).1; omega
      have := step (5 - S.n) (by omega)
      rw [show S.n + (5 - S.n) = 5 by omega] at this
      exact this
    refine Nat.le_trans k (cntP_mono fun j hj hh => ?_)
    exact decide_eq_true (h2 j (by have := h.n5; omega) hh).2
  unfold Maj
  omega
theorem bigR_iff {n : Nat} {T : Row} : bigR n T = true ↔ ∃ u m, (u, m) ∈ T ∧ n < 2 * cntB m := by
  unfold bigR
  rw [List.any_eq_true]
  constructor
  · rintro ⟨⟨u, m⟩, h1, h2⟩; exact ⟨u, m, h1, of_decide_eq_true h2⟩
  · rintro ⟨u, m, h1, h2⟩; exact ⟨(u, m), h1, decide_eq_true h2⟩
/-- What Chosen answers is what a majority voted for. -/
theorem Inv.chosen {S : Gp} {f : Nat → Int} (h : Inv S f) {v : V} (hv : Maj S.n S.all v) : choOf S v.s = (v.x, true) := by
  obtain ⟨u, m, hp, hb⟩ := bigR_iff.1 (h.t3 v hv)
  unfold choOf chosR
  cases hf : (S.tab v.s).find? fun p => decide (S.n < 2 * cntB p.2) with
  | none => exact absurd hb (by simpa using List.find?_eq_none.1 hf _ hp)
  | some p =>
    obtain ⟨u', m'⟩ := p
    have h1 := List.mem_of_find?_eq_some hf
    have h2 : S.n < 2 * cntB m' := by simpa using List.find?_some hf
    obtain ⟨k1, k2⟩ := h.big h1 h2
    simp only [Option.map]
    rw [h.one k1 hv k2]
theorem Inv.unchosen {S : Gp} {f : Nat → Int} (h : Inv S f) {s : Int} (hs : ∀ v, v.s = s → ¬ Maj S.n S.all v) : choOf S s = (⟨#[]⟩, false) := by
  unfold choOf chosR
  cases hf : (S.tab s).find? fun p => decide (S.n < 2 * cntB p.2) with
  | none => rfl
  | some p =>
    obtain ⟨u', m'⟩ := p
    have h1 := List.mem_of_find?_eq_some hf
    have h2 : S.n < 2 * cntB m' := by simpa using List.find?_some hf
    obtain ⟨k1, k2⟩ := h.big h1 h2
    exact (hs _ k2 k1).elim
/-- Of two logs one begins with the other. -/
theorem Inv.agree {S : Gp} {f : Nat → Int} (h : Inv S f) {i j : Nat} (hi : i < S.n) (hj : j < S.n) (k : Nat) {x y : ByteArray} (hx : (S.nd i).log[k]? = some x) (hy : (S.nd j).log[k]? = some y) : x = y := by
  obtain ⟨v, v1, v2, rfl⟩ := h.g7 i hi k x hx
  obtain ⟨u, u1, u2, rfl⟩ := h.g7 j hj k y hy
  exact h.one v1 u1 (v2.trans u2.symm)
theorem Inv.prefix_ {S : Gp} {f : Nat → Int} (h : Inv S f) {i j : Nat} (hi : i < S.n) (hj : j < S.n) (hl : (S.nd i).log.length ≤ (S.nd j).log.length) : (S.nd j).log.take (S.nd i).log.length = (S.nd i).log := by
  apply List.ext_getElem?
  intro k
  rw [List.getElem?_take]
  split
  · rename_i hk
    obtain ⟨x, hx⟩ : ∃ x, (S.nd i).log[k]? = some x := ⟨_, List.getElem?_eq_getElem hk⟩
    obtain ⟨y, hy⟩ : ∃ y, (S.nd j).log[k]? = some y := ⟨_, List.getElem?_eq_getElem (by omega)⟩
    rw [hx, hy, h.agree hi hj k hx hy]
  · rename_i hk
    rw [List.getElem?_eq_none (by omega)]
/-- The log of a node's entries are chosen. -/
theorem Inv.told {S : Gp} {f : Nat → Int} (h : Inv S f) {i : Nat} (hi : i < S.n) {k : Nat} {x : ByteArray} (hx : (S.nd i).log[k]? = some x) : choOf S k = (x, true) := by
  obtain ⟨v, v1, v2, rfl⟩ := h.g7 i hi k x hx
  rw [← v2]; exact h.chosen v1
end Go.Proofs.YtkcbmkedhipgeaaGreatDoor

namespace Go.Proofs.YtkcbmkedhipgeaaGreatDoor
open Go.RowKit Go.WideShapes Go.ChangeMaps Go.MapKept
open Go.WideMaps (KeyLaw)
open Go.Maps (Keyed)

theorem laidOutK : laidOutB Tryz.prog = true := by kernel_rfl
theorem keyL : KeyLaw Tryz.prog 75 :=
  deep_law_laid laidOutK (m := 3) (by omega) (of_decide_eq_true (by kernel_rfl)) (by kernel_rfl) (by rw [Tryz.underlying75])
theorem keyV : Keyed Tryz.prog 75 := Keyed.of_law keyL
theorem typesN : Tryz.prog.types.size = (Tryz.prog.types.size - 1) + 1 := by
  have : 0 < Tryz.prog.types.size := of_decide_eq_true (by kernel_rfl)
  omega
theorem keyTypeK : Tryz.prog.keyType 75 = true := by kernel_rfl
theorem cellsK : Tryz.prog.cellsOf 75 = 3 := by kernel_rfl
theorem cellsI : Tryz.prog.cellsOf 3 = 1 := by kernel_rfl
theorem cellsS : Tryz.prog.cellsOf 9 = 1 := by kernel_rfl
/-- A number that an int may be. -/
@[reducible] def i64 (x : Int) : Prop := (Lit.int .i64 x).wf = true
theorem i64_iff (x : Int) : i64 x ↔ (-9223372036854775808 ≤ x ∧ x ≤ 9223372036854775807) := by
  unfold i64; simp [Lit.wf, IntKind.min, IntKind.max, IntKind.signed, IntKind.bits]
/-- A vote that may be a key. -/
structure okV (v : V) : Prop where
  s : i64 v.s
  b : i64 v.b
  x : v.x.size ≤ maxLen
theorem lits_int (d : Nat) {n : Int} (h : i64 n) : Tryz.prog.keyLits (d + 1) 3 [.int .i64 n] = some [.int .i64 n] := by
  unfold Program.keyLits
  rw [Tryz.underlying3]
  exact if_pos ⟨rfl, h⟩
theorem lits_str (d : Nat) {s : ByteArray} (h : s.size ≤ maxLen) : Tryz.prog.keyLits (d + 1) 9 [.string s] = some [.string s.data.toList] := by
  unfold Program.keyLits
  rw [Tryz.underlying9]
  exact if_pos h
theorem key_mk {v : V} (h : okV v) : ∃ l, keyOf Tryz.prog 75 v.val = some l := by
  unfold keyOf
  rw [Tryz.underlying75]
  have hf : v.val.formed Tryz.prog 75 = true := by simp [Value.formed, Tryz.underlying75, cellsK]
  simp only [keyTypeK, hf, Bool.and_self, if_true]
  have e : v.val.cells.toList = [.int .i64 v.s, .int .i64 v.b, .string v.x] := rfl
  rw [e, typesN]
  unfold Program.keyLits
  rw [Tryz.underlying75]
  simp only [cellsK]
  rw [if_pos (by simp)]
  simp only [List.mapM_cons, List.mapM_nil, cellsI, cellsS, List.drop_zero, List.drop_succ_cons, List.take_succ_cons, List.take_zero]
  rw [typesN, lits_int _ h.s, lits_int _ h.b, lits_str _ h.x]
  exact ⟨_, rfl⟩

/-! ### entries -/
structure En where
  v : V
  m : Nat
  t : Nat
def En.ent (e : En) : MapEntry := ⟨e.v.val, .int .u8 (e.m : Int), e.t⟩
theorem val_inj {v u : V} (h : v.val = u.val) : v = u := by
  obtain ⟨a, b, c⟩ := v
  obtain ⟨a', b', c'⟩ := u
  simp at h
  obtain ⟨rfl, rfl, rfl⟩ := h
  rfl
def rowE (L : List En) : Row := L.map fun e => (e.v, e.m)
/-- Their times rise below c, no key stands twice; each may be a key. -/
structure GoodE (L : List En) (c : Nat) : Prop where
  lt : ∀ e ∈ L, e.t < c
  times : (L.map En.t).Nodup
  keys : L.Pairwise fun e f => e.v ≠ f.v
  ok : ∀ e ∈ L, okV e.v
theorem ent_toList (L : List En) : ((L.map En.ent).toArray).toList = L.map En.ent := by simp
theorem GoodE.stamped {L : List En} {c : Nat} (h : GoodE L c) : Stamped (L.map En.ent).toArray c := by
  rw [stamped_iff, ent_toList]
  refine ⟨fun x hx => ?_, ?_, ?_⟩
  · obtain ⟨e, he, rfl⟩ := List.mem_map.1 hx
    exact h.lt e he
  · rw [List.map_map]; exact h.times
  · rw [List.pairwise_map]
    exact h.keys.imp fun hne he => hne (val_inj he)
theorem GoodE.keysOk {L : List En} {c : Nat} (h : GoodE L c) : ∀ e ∈ L.map En.ent, ∃ l, keyOf Tryz.prog 75 e.key = some l := by
  intro x hx
  obtain ⟨e, he, rfl⟩ := List.mem_map.1 hx
  exact key_mk (h.ok e he)
theorem key_one {L : List En} (h : L.Pairwise fun e f => e.v ≠ f.v) {e f : En} (he : e ∈ L) (hf : f ∈ L) (hv : e.v = f.v) : e = f := by
  induction L with
  | nil => cases he
  | cons a L ih =>
    obtain ⟨h1, h2⟩ := List.pairwise_cons.1 h
    rcases List.mem_cons.1 he with e1 | he1
    · rcases List.mem_cons.1 hf with e2 | hf1
      · exact e1.trans e2.symm
      · exact absurd (e1 ▸ hv) (h1 f hf1)
    · rcases List.mem_cons.1 hf with e2 | hf1
      · exact absurd (e2 ▸ hv.symm) (h1 e he1)
      · exact ih h2 he1 hf1
/-- Block b is the map whose entries are L. -/
def IM (w : World) (b : Nat) (L : List En) (c : Nat) : Prop := w.heap[b]? = some (.map (L.map En.ent).toArray c) ∧ GoodE L c
theorem IM.lt {w : World} {b : Nat} {L : List En} {c : Nat} (h : IM w b L c) : b < w.heap.size := (Array.getElem?_eq_some_iff.1 h.1).1
theorem IM.of_block {w w' : World} {b : Nat} {L : List En} {c : Nat} (h : IM w b L c) (hb : w'.heap[b]? = w.heap[b]?) : IM w' b L c := ⟨hb.trans h.1, h.2⟩
theorem IM.made (w : World) : IM (w.alloc (.map #[] 0)) w.heap.size [] 0 := ⟨(MapKept.heap_alloc w _).1, by
  exact { lt := fun e he => (by cases he), times := List.nodup_nil, keys := List.Pairwise.nil, ok := fun e he => (by cases he) }⟩
theorem IM.ne_cells {w : World} {b a : Nat} {L : List En} {c : Nat} {cs : Array Value} {t : TypeId} {f : Nat × Nat} (h : IM w b L c) (ha : w.heap[a]? = some (.cells cs t f)) : b ≠ a := by
  rintro rfl
  rw [h.1] at ha
  cases ha
/-- The set that stands at v; 0, if none does. -/
def mskE (L : List En) (v : V) : Nat := match L.find? fun e => decide (e.v = v) with
  | some e => e.m
  | none => 0
theorem msk_none {L : List En} {v : V} (h : ∀ e ∈ L, e.v ≠ v) : mskE L v = 0 := by
  unfold mskE
  rw [List.find?_eq_none.2 fun e he => by simpa using h e he]
theorem msk_at {L : List En} (h : L.Pairwise fun e f => e.v ≠ f.v) {e : En} (he : e ∈ L) : mskE L e.v = e.m := by
  unfold mskE
  cases hf : L.find? fun x => decide (x.v = e.v) with
  | none => exact ((List.find?_eq_none.1 hf e he) (by simp)).elim
  | some f =>
    have h1 := List.mem_of_find?_eq_some hf
    have h2 : f.v = e.v := by simpa using List.find?_some hf
    rw [key_one h h1 he h2]
/-- Where the key is looked for. -/
theorem IM.find {w : World} {b : Nat} {L : List En} {c : Nat} (h : IM w b L c) {v : V} (hv : okV v) :
    ((Instr.findKey 75 v.val (L.map En.ent)).run Tryz.prog w = .ok none w ∧ ∀ e ∈ L, e.v ≠ v) ∨
    ∃ j e, (Instr.findKey 75 v.val (L.map En.ent)).run Tryz.prog w = .ok (some (j, .int .u8 (e.m : Int))) w ∧ L[j]? = some e ∧ e.v = v := by
  obtain ⟨l, hl⟩ := key_mk hv
  rcases keyL.find w hl (L.map En.ent) h.2.keysOk with ⟨h1, h2⟩ | ⟨j, x, h1, h2, h3⟩
  · exact .inl ⟨h1, fun e he hc => h2 e.ent (List.mem_map.2 ⟨e, he, rfl⟩) (by rw [← hc]; rfl)⟩
  · rw [List.getElem?_map, Option.map_eq_some_iff] at h2
    obtain ⟨e, he, rfl⟩ := h2
    exact .inr ⟨j, e, h1, he, val_inj h3⟩
/-- 'm[k]'. -/
theorem IM.look {w : World} {b : Nat} {L : List En} {c : Nat} (h : IM w b L c) {v : V} (hv : okV v) :
    (Instr.lookup 73 (.map (some b)) v.val false).run Tryz.prog w = .ok (.int .u8 (mskE L v : Int)) w := by
  obtain ⟨l, hl⟩ := key_mk hv
  rcases h.find hv with ⟨h1, h2⟩ | ⟨j, e, h1, h2, rfl⟩
  · rw [msk_none h2]
    simp [Instr.lookup, run_underlying Tryz.underlying73, MapKept.run_getObj_map h.1, keyV.check w _ hl, h1, Result.andThen]
  · rw [msk_at h.2.keys (List.mem_of_getElem? h2)]
    simp [Instr.lookup, run_underlying Tryz.underlying73, MapKept.run_getObj_map h.1, keyV.check w _ hl, h1, Result.andThen]
/-- The set at v is m from now on. -/
def setE' (L : List En) (v : V) (m : Nat) : List En := L.map fun e => if e.v = v then { e with m := m } else e
theorem setE_map (L : List En) (v : V) (m : Nat) : (setE' L v m).map En.v = L.map En.v ∧ (setE' L v m).map En.t = L.map En.t := by
  unfold setE'
  rw [List.map_map, List.map_map]
  constructor
  · apply List.map_congr_left
    intro e _
    simp only [Function.comp]
    split <;> rfl
  · apply List.map_congr_left
    intro e _
    simp only [Function.comp]
    split <;> rfl
theorem setE_mem {L : List En} {v : V} {m : Nat} {e : En} (h : e ∈ setE' L v m) : ∃ f ∈ L, e.v = f.v ∧ e.t = f.t := by
  unfold setE' at h
  obtain ⟨f, hf, rfl⟩ := List.mem_map.1 h
  refine ⟨f, hf, ?_⟩
  split <;> exact ⟨rfl, rfl⟩
theorem GoodE.set {L : List En} {c : Nat} (h : GoodE L c) (v : V) (m : Nat) : GoodE (setE' L v m) c := by
  refine ⟨fun e he => ?_, by rw [(setE_map L v m).2]; exact h.times, ?_, fun e he => ?_⟩
  · obtain ⟨f, hf, -, e2⟩ := setE_mem he
    rw [e2]; exact h.lt f hf
  · have := h.keys
    rw [← List.pairwise_map (f := En.v) (R := fun a b => a ≠ b)] at this ⊢
    rw [(setE_map L v m).1]; exact this
  · obtain ⟨f, hf, e1, -⟩ := setE_mem he
    rw [e1]; exact h.ok f hf
theorem GoodE.del {L : List En} {c : Nat} (h : GoodE L c) (p : En → Bool) : GoodE (L.filter p) c := by
  refine ⟨fun e he => h.lt e (List.mem_filter.1 he).1, ?_, h.keys.filter p, fun e he => h.ok e (List.mem_filter.1 he).1⟩
  exact List.Nodup.sublist ((List.filter_sublist (p := p)).map En.t) h.times
theorem GoodE.push {L : List En} {c : Nat} (h : GoodE L c) {v : V} (hv : okV v) (hn : ∀ e ∈ L, e.v ≠ v) (m : Nat) : GoodE (L ++ [⟨v, m, c⟩]) (c + 1) := by
  refine ⟨fun e he => ?_, ?_, ?_, fun e he => ?_⟩
  · rcases List.mem_append.1 he with he | he
    · exact Nat.lt_succ_of_lt (h.lt e he)
    · simp at he; rw [he]; exact Nat.lt_succ_self c
  · rw [List.map_append, List.nodup_append]
    refine ⟨h.times, by simp, fun a ha b hb => ?_⟩
    obtain ⟨e, he, rfl⟩ := List.mem_map.1 ha
    simp at hb
    have := h.lt e he
    omega
  · rw [List.pairwise_append]
    refine ⟨h.keys, by simp, fun a ha b hb => ?_⟩
    simp at hb
    rw [hb]; exact hn a ha
  · rcases List.mem_append.1 he with he | he
    · exact h.ok e he
    · simp at he; rw [he]; exact hv
/-- An array of entries whose place j is turned. -/
theorem arr_set {L : List En} {j : Nat} {e : En} (hk : L.Pairwise fun e f => e.v ≠ f.v) (hj : L[j]? = some e) (m : Nat) (g : MapEntry → MapEntry) (hg : g e.ent = ({ e with m := m } : En).ent) :
    ((L.map En.ent).toArray).modify j g = ((setE' L e.v m).map En.ent).toArray := by
  apply Array.ext'
  rw [Array.toList_modify, ent_toList, ent_toList, modify_eq_set g _ j e.ent (by rw [List.getElem?_map, hj]; rfl), hg]
  apply List.ext_getElem?
  intro i
  rw [List.getElem?_set, List.getElem?_map]
  unfold setE'
  rw [List.getElem?_map, List.getElem?_map]
  obtain ⟨hlt, -⟩ := List.getElem?_eq_some_iff.1 hj
  by_cases ei : j = i
  · subst ei
    rw [if_pos rfl, if_pos (by rw [List.length_map]; exact hlt), hj]
    simp
  · rw [if_neg ei]
    cases hi : L[i]? with
    | none => rfl
    | some f =>
      simp only [Option.map]
      have hne : f.v ≠ e.v := fun hv => by
        obtain ⟨h1, h2⟩ := List.getElem?_eq_some_iff.1 hi
        obtain ⟨h3, h4⟩ := List.getElem?_eq_some_iff.1 hj
        rw [List.pairwise_iff_getElem] at hk
        rcases Nat.lt_or_gt_of_ne ei with hl | hl
        · have := hk j i h3 h1 hl; rw [h2, h4] at this; exact this hv.symm
        · have := hk i j h1 h3 hl; rw [h2, h4] at this; exact this hv
      rw [if_neg hne]
theorem arr_push (L : List En) (v : V) (m c : Nat) : ((L.map En.ent).toArray).push ⟨v.val, .int .u8 (m : Int), c⟩ = ((L ++ [(⟨v, m, c⟩ : En)]).map En.ent).toArray := by
  apply Array.ext'
  simp [En.ent]
/-- 'm[k] = x', where k is there. -/
theorem IM.store {w : World} {b : Nat} {L : List En} {c : Nat} (h : IM w b L c) {e : En} (he : e ∈ L) (m : Nat) :
    ∃ w', (Instr.mapUpdate 73 (.map (some b)) e.v.val (.int .u8 (m : Int))).run Tryz.prog w = .ok () w' ∧ IM w' b (setE' L e.v m) c ∧ w' = setBlock w b (.map ((setE' L e.v m).map En.ent).toArray c) := by
  have hv := h.2.ok e he
  obtain ⟨l, hl⟩ := key_mk hv
  rcases h.find hv with ⟨h1, h2⟩ | ⟨j, f, h1, h2, h3⟩
  · exact absurd rfl (h2 e he)
  · have hj : (L.map En.ent)[j]? = some f.ent := by rw [List.getElem?_map, h2]; rfl
    have ha := arr_set h.2.keys h2 m (fun e' => { e' with key := e.v.val, val := .int .u8 (m : Int) }) (by rw [← h3]; rfl)
    rw [h3] at ha
    refine ⟨_, ?_, ⟨heap_setBlock_same h.1 _, h.2.set e.v m⟩, rfl⟩
    rw [← ha]
    have hkey : f.ent.key = e.v.val := by rw [← h3]; rfl
    simp [Instr.mapUpdate, run_underlying Tryz.underlying73, MapKept.run_getObj_map h.1, keyV.check w false hl, h1, h2, hkey, keyV.stays w hl, MapKept.run_setObj_map _ h.1, Result.andThen, setBlock]
/-- 'delete(m, k)'. -/
theorem IM.drop {w : World} {b : Nat} {L : List En} {c : Nat} (h : IM w b L c) {v : V} (hv : okV v) (ty : TypeId) :
    ∃ w', (Builtin.delete_ #[73, 75] ty #[.map (some b), v.val]).run Tryz.prog w = .ok (.tuple #[]) w' ∧ IM w' b (L.filter fun e => !decide (e.v = v)) c ∧ w' = setBlock w b (.map ((L.filter fun e => !decide (e.v = v)).map En.ent).toArray c) := by
  obtain ⟨l, hl⟩ := key_mk hv
  refine ⟨_, ?_, ⟨heap_setBlock_same h.1 _, h.2.del _⟩, rfl⟩
  rcases h.find hv with ⟨h1, h2⟩ | ⟨j, f, h1, h2, rfl⟩
  · have : (L.filter fun e => !decide (e.v = v)) = L := by
      rw [List.filter_eq_self]
      intro e he
      simpa using h2 e he
    rw [this]
    simp [Builtin.delete_, run_underlying Tryz.underlying73, MapKept.run_getObj_map h.1, keyV.check w _ hl, h1, MapKept.run_setObj_map _ h.1, Result.andThen, setBlock]
  · have hjl : j < L.length := (List.getElem?_eq_some_iff.1 h2).1
    have ha : ((L.map En.ent).toArray).eraseIdxIfInBounds j = ((L.filter fun e => !decide (e.v = f.v)).map En.ent).toArray := by
      unfold Array.eraseIdxIfInBounds
      rw [dif_pos (by simpa using hjl)]
      apply Array.ext'
      rw [Array.toList_eraseIdx, ent_toList, ent_toList, ← map_eraseIdx]
      refine congrArg (List.map En.ent) ?_
      have hk := h.2.keys
      clear h1 hl h hv
      induction L generalizing j with
      | nil => simp at hjl
      | cons a L ih =>
        obtain ⟨k1, k2⟩ := List.pairwise_cons.1 hk
        cases j with
        | zero =>
          simp at h2
          subst h2
          rw [List.eraseIdx_cons_zero, List.filter_cons_of_neg (by simp)]
          symm
          rw [List.filter_eq_self]
          intro e he
          simpa using (k1 e he).symm
        | succ j =>
          simp at h2
          rw [List.eraseIdx_cons_succ, List.filter_cons_of_pos (by simpa using k1 f (List.mem_of_getElem? h2)), ih _ h2 (by simpa using hjl) k2]
    rw [← ha]
    simp [Builtin.delete_, run_underlying Tryz.underlying73, MapKept.run_getObj_map h.1, keyV.check w _ hl, h1, MapKept.run_setObj_map _ h.1, Result.andThen, setBlock]
/-- What is there behind 'm[k] |= ..' has begun: k is there. -/
def inE (L : List En) (c : Nat) (v : V) : List En × Nat := if (L.any fun e => decide (e.v = v)) then (L, c) else (L ++ [⟨v, 0, c⟩], c + 1)
theorem any_false {L : List En} {v : V} (h : ∀ e ∈ L, e.v ≠ v) : (L.any fun e => decide (e.v = v)) = false := by
  rw [List.any_eq_false]; intro e he; simpa using h e he
theorem any_true {L : List En} {e : En} (he : e ∈ L) : (L.any fun x => decide (x.v = e.v)) = true := List.any_eq_true.2 ⟨e, he, by simp⟩
theorem inE_msk {L : List En} {c : Nat} {v : V} : mskE (inE L c v).1 v = mskE L v := by
  unfold inE
  split
  · rfl
  · rename_i h
    have hn : ∀ e ∈ L, e.v ≠ v := fun e he hv => h (by rw [← hv]; exact any_true he)
    rw [msk_none hn]
    unfold mskE
    rw [List.find?_append, List.find?_eq_none.2 fun e he => by simpa using hn e he]
    simp
/-- 'm[k] op= x': the entry is laid, or looked for; then its set is turned. -/
theorem IM.entry {w : World} {b : Nat} {L : List En} {c : Nat} (h : IM w b L c) {v : V} (hv : okV v) :
    ∃ st w1, (Instr.mapEntry 73 (.map (some b)) v.val).run Tryz.prog w = .ok (.tuple #[.int .u8 (mskE L v : Int), goInt st]) w1 ∧ w1 = setBlock w b (.map ((inE L c v).1.map En.ent).toArray (inE L c v).2) ∧ IM w1 b (inE L c v).1 (inE L c v).2 ∧
      ∀ (w2 : World) (m : Nat), IM w2 b (inE L c v).1 (inE L c v).2 → (Instr.entryStore 73 (.map (some b)) (goInt st) (.int .u8 (m : Int))).run Tryz.prog w2 = .ok () (setBlock w2 b (.map ((setE' (inE L c v).1 v m).map En.ent).toArray (inE L c v).2)) := by
  obtain ⟨l, hl'⟩ := key_mk hv
  -- the second half, for an entry e0 that is there
  have half : ∀ (L1 : List En) (c1 j : Nat) (e0 : En), GoodE L1 c1 → L1[j]? = some e0 → ∀ (w2 : World) (m : Nat), IM w2 b L1 c1 → (Instr.entryStore 73 (.map (some b)) (goInt e0.t) (.int .u8 (m : Int))).run Tryz.prog w2 = .ok () (setBlock w2 b (.map ((setE' L1 e0.v m).map En.ent).toArray c1)) := by
    intro L1 c1 j e0 hG hj w2 m hw2
    have hidx : ((L1.map En.ent).toArray).findIdx? (fun e => ((e.born : Nat) : Int) == ((e0.t : Nat) : Int)) = some j := by
      rw [WideElems.findIdx_arr, ent_toList]
      have := WideElems.findIdx_born (l := L1.map En.ent) (j := j) (e0 := e0.ent) (by rw [List.map_map]; exact hG.times) (by rw [List.getElem?_map, hj]; rfl)
      exact this
    rw [← arr_set hG.keys hj m (fun e => { e with val := .int .u8 (m : Int) }) rfl]
    simp [Instr.entryStore, MapKept.run_getObj_map hw2.1, asInt, asIntOf, goInt, hidx, MapKept.run_setObj_map _ hw2.1, Result.andThen, setBlock]
  rcases h.find hv with ⟨h1, h2⟩ | ⟨j, f, h1, h2, rfl⟩
  · have hin : inE L c v = (L ++ [⟨v, 0, c⟩], c + 1) := by unfold inE; rw [any_false h2]; rfl
    have hG := h.2.push hv h2 0
    rw [hin, msk_none h2]
    refine ⟨c, _, ?_, rfl, ⟨heap_setBlock_same h.1 _, hG⟩, ?_⟩
    · rw [← arr_push]
      simp [Instr.mapEntry, run_underlying Tryz.underlying73, MapKept.run_getObj_map h.1, keyV.check w false hl', h1, MapKept.run_setObj_map _ h.1, Result.andThen, setBlock]
    · exact half _ _ L.length ⟨v, 0, c⟩ hG (by simp)
  · have hm := List.mem_of_getElem? h2
    have hin : inE L c f.v = (L, c) := by unfold inE; rw [any_true hm]; rfl
    rw [hin, msk_at h.2.keys hm]
    refine ⟨f.t, _, ?_, rfl, ⟨heap_setBlock_same h.1 _, h.2⟩, half L c j f h.2 h2⟩
    have hsame : (L.map En.ent).modify j (fun e => { e with key := f.v.val }) = L.map En.ent := by
      rw [modify_eq_set _ _ j f.ent (by rw [List.getElem?_map, h2]; rfl)]
      exact WideElems.set_self _ _ _ (by rw [List.getElem?_map, h2]; rfl)
    have hkey : f.ent.key = f.v.val := rfl
    have hborn : f.ent.born = f.t := rfl
    simp [Instr.mapEntry, run_underlying Tryz.underlying73, MapKept.run_getObj_map h.1, keyV.check w false hl', h1, h2, hkey, hborn, keyV.stays w hl', hsame, MapKept.run_setObj_map _ h.1, Result.andThen, setBlock]
/-- What a put leaves, in rows. -/
theorem put_eq (i : Nat) (v : V) (T : Row) (hT : T.Pairwise fun p q => p.1 ≠ q.1) : putR i v T = if (T.any fun p => decide (p.1 = v)) then T.map (fun p => if p.1 = v then (v, addB p.2 i) else p) else T ++ [(v, 1 <<< i)] := by
  induction T with
  | nil => rfl
  | cons p T ih =>
    obtain ⟨h1, h2⟩ := List.pairwise_cons.1 hT
    rw [putR]
    by_cases e : p.1 = v
    · rw [if_pos e, if_pos (List.any_eq_true.2 ⟨p, List.mem_cons_self, by simpa using e⟩), List.map_cons, if_pos e]
      congr 1
      symm
      have : T.map (fun p => if p.1 = v then (v, addB p.2 i) else p) = T.map id := by
        apply List.map_congr_left
        intro q hq
        rw [if_neg (fun hq' => h1 q hq (e.trans hq'.symm))]; rfl
      rw [this, List.map_id]
    · rw [if_neg e, ih h2, List.any_cons]
      simp only [e, decide_false, Bool.false_or]
      split
      · rw [List.map_cons, if_neg e]
      · rfl
theorem rowE_any (L : List En) (v : V) : ((rowE L).any fun p => decide (p.1 = v)) = L.any fun e => decide (e.v = v) := by
  unfold rowE; rw [List.any_map]; rfl
theorem row_put {L : List En} {c : Nat} (h : GoodE L c) (i : Nat) (v : V) : rowE (setE' (inE L c v).1 v (addB (mskE L v) i)) = putR i v (rowE L) := by
  have hp : (rowE L).Pairwise fun p q => p.1 ≠ q.1 := by unfold rowE; rw [List.pairwise_map]; exact h.keys
  rw [put_eq i v _ hp, rowE_any]
  unfold inE
  split
  · unfold rowE setE'
    rw [List.map_map, List.map_map]
    apply List.map_congr_left
    intro e he
    simp only [Function.comp]
    by_cases ev : e.v = v
    · subst ev
      rw [if_pos rfl, if_pos rfl, msk_at h.keys he]
    · rw [if_neg ev, if_neg ev]
  · rename_i hn
    have hn' : ∀ e ∈ L, e.v ≠ v := fun e he hv => hn (by rw [← hv]; exact any_true he)
    rw [msk_none hn']
    unfold rowE setE'
    rw [List.map_append, List.map_append, List.map_map]
    simp only [List.map_cons, List.map_nil, if_pos]
    congr 1
    · apply List.map_congr_left
      intro e he
      simp only [Function.comp]
      rw [if_neg (hn' e he)]
    · simp [addB]
end Go.Proofs.YtkcbmkedhipgeaaGreatDoor

namespace Go.Proofs.YtkcbmkedhipgeaaGreatDoor
open Go.RowKit Go.WideShapes Go.ChangeMaps Go.MapKept
open Go.Maps (Keyed)

/-- The range is under way in block r: of the entries L those have come whose time is in 'seen'. -/
def Rgi (w : World) (b r : Nat) (L : List En) (c : Nat) (seen : Array Nat) : Prop :=
  ∃ since c0, IM w b L c ∧ w.heap[r]? = some (.mapIter (some b) since seen c0) ∧ (∀ e ∈ L, e.t < since) ∧ since ≤ c0 ∧ since ≤ c
theorem Rgi.im {w : World} {b r : Nat} {L : List En} {c : Nat} {seen : Array Nat} (h : Rgi w b r L c seen) : IM w b L c := by obtain ⟨_, _, h, _⟩ := h; exact h
theorem Rgi.ne {w : World} {b r : Nat} {L : List En} {c : Nat} {seen : Array Nat} (h : Rgi w b r L c seen) : r ≠ b := by
  obtain ⟨_, _, h1, h2, _⟩ := h
  rintro rfl
  rw [h1.1] at h2; cases h2
theorem Rgi.lt {w : World} {b r : Nat} {L : List En} {c : Nat} {seen : Array Nat} (h : Rgi w b r L c seen) : r < w.heap.size := by
  obtain ⟨_, _, _, h2, _⟩ := h
  exact (Array.getElem?_eq_some_iff.1 h2).1
theorem Rgi.of_blocks {w w' : World} {b r : Nat} {L : List En} {c : Nat} {seen : Array Nat} (h : Rgi w b r L c seen) (hb : w'.heap[b]? = w.heap[b]?) (hr : w'.heap[r]? = w.heap[r]?) : Rgi w' b r L c seen := by
  obtain ⟨s, c0, h1, h2, h3⟩ := h
  exact ⟨s, c0, h1.of_block hb, hr.trans h2, h3⟩
/-- A block of cells is no iterator. -/
theorem Rgi.ne_cells {w : World} {b r a : Nat} {L : List En} {c : Nat} {seen : Array Nat} {cs : Array Value} {t : TypeId} {f : Nat × Nat} (h : Rgi w b r L c seen) (ha : w.heap[a]? = some (.cells cs t f)) : r ≠ a ∧ b ≠ a := by
  refine ⟨?_, h.im.ne_cells ha⟩
  obtain ⟨_, _, _, h2, _⟩ := h
  rintro rfl
  rw [h2] at ha; cases ha
/-- How many are still to come: the loop's measure. -/
def leftE (L : List En) (seen : Array Nat) : Nat := L.countP fun e => !seen.contains e.t
theorem left_size (L : List En) (seen : Array Nat) : (leftOf (L.map En.ent).toArray seen).size = leftE L seen := by
  unfold leftOf leftE
  rw [← Array.length_toList, Array.toList_filter, ent_toList, List.filter_map, List.length_map, List.countP_eq_length_filter]
  rfl
theorem Rgi.left {w : World} {b r : Nat} {L : List En} {c : Nat} {seen : Array Nat} (h : Rgi w b r L c seen) : w.rangeLeft b r = leftE L seen := by
  obtain ⟨_, _, h1, h2, _⟩ := h
  simp only [World.rangeLeft, h1.1, h2]
  exact left_size L seen
theorem left_push {L : List En} {e : En} (he : e ∈ L) {seen : Array Nat} (hs : seen.contains e.t = false) : leftE L (seen.push e.t) < leftE L seen := by
  rw [← left_size, ← left_size]
  exact left_shrinks _ seen e.ent (by
    unfold leftOf
    rw [Array.toList_filter, ent_toList, List.mem_filter]
    exact ⟨List.mem_map.2 ⟨e, he, rfl⟩, by show (!seen.contains e.t) = true; rw [hs]; rfl⟩)
/-- The one entry of a time. -/
theorem time_one {L : List En} (h : (L.map En.t).Nodup) {e f : En} (he : e ∈ L) (hf : f ∈ L) (ht : e.t = f.t) : e = f := by
  induction L with
  | nil => cases he
  | cons a L ih =>
    rw [List.map_cons, List.nodup_cons] at h
    rcases List.mem_cons.1 he with e1 | he1
    · rcases List.mem_cons.1 hf with e2 | hf1
      · exact e1.trans e2.symm
      · exact absurd (List.mem_map.2 ⟨f, hf1, by rw [← ht, e1]⟩) h.1
    · rcases List.mem_cons.1 hf with e2 | hf1
      · exact absurd (List.mem_map.2 ⟨e, he1, by rw [ht, e2]⟩) h.1
      · exact ih h.2 he1 hf1
section
variable (w : World) {ops : Array Oper} {rest : List Oper} {o : Oper} {a : Act} {Q : Exit → Act → World → Prop}
/-- 'range m'. -/
theorem wpList_range_im (hg : o.guard = none) (m : Operand) (hop : o.op = Op.range 73 m) (b : Nat) (L : List En) (c : Nat) (hm : a.eval m = .map (some b)) (h : IM w b L c)
    (hK : ∀ w', Rgi w' b w.heap.size L c #[] → Below w.heap.size w w' → w'.heap.size = w.heap.size + 1 → wpList Tryz.prog ops Q rest (a.put o.dst (.pointer (some ⟨w.heap.size, 0, none⟩))) w') :
    wpList Tryz.prog ops Q (o :: rest) a w := by
  refine wpList_plain hg fun K' hK' => ?_
  unfold Oper.wp
  have hrun := run_range_map (P := Tryz.prog) w 73 75 76 b _ c Tryz.underlying73 h.1
  simp [execOp, hop, hm, hrun, Result.andThen]
  refine hK' _ _ (hK _ ?_ ((Below.refl _ _).alloc (Nat.le_refl _) _) (by simp))
  exact ⟨c, c, h.of_block ((MapKept.heap_alloc w _).2 b h.lt), (MapKept.heap_alloc w _).1, h.2.lt, Nat.le_refl _, Nat.le_refl _⟩
/-- The step. -/
theorem wpList_next_im (hg : o.guard = none) (it : Operand) (hop : o.op = Op.next it false) (b r : Nat) (L : List En) (c : Nat) (seen : Array Nat) (hit : a.eval it = .pointer (some ⟨r, 0, none⟩)) (h : Rgi w b r L c seen)
    (hDone : (∀ e ∈ L, seen.contains e.t = true) → wpList Tryz.prog ops Q rest (a.put o.dst (.tuple #[.bool false])) w)
    (hMore : ∀ (e : En) (w' : World), e ∈ L → seen.contains e.t = false → Rgi w' b r L c (seen.push e.t) → Fb r w w' → w'.heap.size = w.heap.size →
      (Instr.entry (.pointer (some ⟨r, 0, none⟩))).run Tryz.prog w' = .ok (.tuple #[e.v.val, .int .u8 (e.m : Int)]) w' → wpList Tryz.prog ops Q rest (a.put o.dst (.tuple #[.bool true, e.v.val, .int .u8 (e.m : Int)])) w') :
    wpList Tryz.prog ops Q (o :: rest) a w := by
  refine wpList_plain hg fun K' hK' => ?_
  unfold Oper.wp
  have hne := h.ne
  obtain ⟨since, c0, h1, h2, h3, h4, h5⟩ := h
  have hold : ∀ x ∈ ((L.map En.ent).toArray).toList, x.born < since := by
    rw [ent_toList]
    intro x hx
    obtain ⟨e, he, rfl⟩ := List.mem_map.1 hx
    exact h3 e he
  rcases run_next_at (P := Tryz.prog) w o.type r b since c0 seen _ c h2 h1.1 hold h4 with ⟨hz, hrun⟩ | ⟨x, hx, w1, hal, hrun⟩
  · simp [execOp, hop, hit, hrun, Result.andThen]
    refine hK' _ _ (hDone fun e he => ?_)
    exact all_seen _ seen hz e.ent (by rw [ent_toList]; exact List.mem_map.2 ⟨e, he, rfl⟩)
  · obtain ⟨hem, hes⟩ := mem_left hx
    rw [ent_toList] at hem
    obtain ⟨e, he, rfl⟩ := List.mem_map.1 hem
    simp [execOp, hop, hit, hrun, Result.andThen]
    have hr1 : w1.heap[r]? = some (.mapIter (some b) since seen c0) := by rcases hal with rfl | rfl <;> exact h2
    have hb1 : w1.heap[b]? = some (.map (L.map En.ent).toArray c) := by rcases hal with rfl | rfl <;> exact h1.1
    have hset := heap_set (o' := .mapIter (some b) since (seen.push e.ent.born) c) hr1
    have hb' : (setBlock w1 r (.mapIter (some b) since (seen.push e.ent.born) c)).heap[b]? = some (.map (L.map En.ent).toArray c) := (hset.2 b (fun e1 => hne e1.symm)).trans hb1
    refine hK' _ _ (hMore e _ he hes ⟨since, c, ⟨hb', h1.2⟩, hset.1, h3, h5, h5⟩ ?_ ?_ ?_)
    · rcases hal with rfl | rfl <;> exact ⟨rfl, rfl, rfl, by simp [setBlock], fun i _ hi _ => hset.2 i hi⟩
    · rcases hal with rfl | rfl <;> simp [setBlock]
    · exact run_entry_at _ r b since seen _ c e.ent hset.1 hb' (by rw [ent_toList]; exact List.mem_map.2 ⟨e, he, rfl⟩) ((stamped_iff _ c).1 h1.2.stamped).2.1
end
/-- The range goes on where the entry that has come is turned, or dropped. -/
theorem Rgi.store {w w' : World} {b r : Nat} {L L' : List En} {c : Nat} {seen : Array Nat} (h : Rgi w b r L c seen) (hi : IM w' b L' c) (hw : w'.heap[r]? = w.heap[r]?) (hs : ∀ e ∈ L', ∃ f ∈ L, e.t = f.t) : Rgi w' b r L' c seen := by
  obtain ⟨since, c0, h1, h2, h3, h4, h5⟩ := h
  exact ⟨since, c0, hi, hw.trans h2, fun e he => by obtain ⟨f, hf, ht⟩ := hs e he; rw [ht]; exact h3 f hf, h4, h5⟩

/-! ### what a range leaves that takes one node out -/
theorem fm_congr {α β : Type} {f g : α → Option β} : ∀ {l : List α}, (∀ x ∈ l, f x = g x) → l.filterMap f = l.filterMap g
  | [], _ => rfl
  | x :: l, h => by
    rw [List.filterMap_cons, List.filterMap_cons, h x List.mem_cons_self, fm_congr fun y hy => h y (List.mem_cons_of_mem _ hy)]
def strE (i : Nat) (e : En) : Option En := if clr e.m i = 0 then none else some { e with m := clr e.m i }
/-- Of the entries L0 those that have come are turned. -/
def wayE (i : Nat) (seen : Array Nat) (L : List En) : List En := L.filterMap fun e => if seen.contains e.t = true then strE i e else some e
theorem way_none (i : Nat) (L : List En) : wayE i #[] L = L := by
  unfold wayE
  have : (fun e : En => if (#[] : Array Nat).contains e.t = true then strE i e else some e) = some := by funext e; simp
  rw [this, List.filterMap_some]
theorem way_all {i : Nat} {seen : Array Nat} {L : List En} (h : ∀ e ∈ wayE i seen L, seen.contains e.t = true) : wayE i seen L = L.filterMap (strE i) := by
  have hall : ∀ e ∈ L, seen.contains e.t = true := fun e he => by
    cases hc : seen.contains e.t with
    | true => rfl
    | false =>
      have := h e (List.mem_filterMap.2 ⟨e, he, by simp only [hc]; rfl⟩)
      rw [hc] at this; exact this
  unfold wayE
  apply fm_congr
  intro e he
  simp only [hall e he, if_true]
theorem row_str (i : Nat) (L : List En) : rowE (L.filterMap (strE i)) = stripR i (rowE L) := by
  unfold rowE stripR
  rw [List.map_filterMap, List.filterMap_map]
  congr 1
  funext e
  simp only [Function.comp, strE]
  split <;> rfl
theorem way_mem {i : Nat} {seen : Array Nat} {L : List En} {e : En} (h : e ∈ wayE i seen L) : ∃ f ∈ L, e.v = f.v ∧ e.t = f.t ∧ (seen.contains e.t = false → e = f) := by
  unfold wayE at h
  obtain ⟨f, hf, hx⟩ := List.mem_filterMap.1 h
  by_cases hc : seen.contains f.t = true
  · simp only [hc, if_true] at hx
    unfold strE at hx
    split at hx
    · cases hx
    · injection hx with hx
      subst hx
      exact ⟨f, hf, rfl, rfl, fun h => by rw [show (⟨f.v, clr f.m i, f.t⟩ : En).t = f.t from rfl, hc] at h; cases h⟩
  · simp only [hc] at hx
    injection hx with hx
    subst hx
    exact ⟨f, hf, rfl, rfl, fun _ => rfl⟩
/-- One more has come: it is turned. -/
theorem way_set {i : Nat} {seen : Array Nat} {L : List En} {c : Nat} (hG : GoodE L c) {e : En} (he : e ∈ L) (hs : seen.contains e.t = false) (hm : clr e.m i ≠ 0) :
    setE' (wayE i seen L) e.v (clr e.m i) = wayE i (seen.push e.t) L := by
  unfold setE' wayE
  rw [List.map_filterMap]
  apply fm_congr
  intro f hf
  rw [contains_push]
  by_cases ef : f = e
  · subst ef
    simp only [hs, beq_self_eq_true, Bool.or_true, if_true]
    unfold strE
    rw [if_neg hm]
    simp
  · have ht : f.t ≠ e.t := fun h => ef (time_one hG.times hf he h)
    have hv : f.v ≠ e.v := fun h => ef (key_one hG.keys hf he h)
    have hb : (f.t == e.t) = false := by simpa using ht
    rw [hb, Bool.or_false]
    by_cases hc : seen.contains f.t = true
    · simp only [hc, if_true]
      unfold strE
      split
      · rfl
      · simp [hv]
    · simp only [hc]
      simp [hv]
/-- .. or dropped. -/
theorem way_del {i : Nat} {seen : Array Nat} {L : List En} {c : Nat} (hG : GoodE L c) {e : En} (he : e ∈ L) (hs : seen.contains e.t = false) (hm : clr e.m i = 0) (m : Nat) :
    ((setE' (wayE i seen L) e.v m).filter fun x => !decide (x.v = e.v)) = wayE i (seen.push e.t) L := by
  unfold setE' wayE
  rw [List.map_filterMap, List.filter_filterMap]
  apply fm_congr
  intro f hf
  rw [contains_push]
  by_cases ef : f = e
  · subst ef
    simp only [hs, beq_self_eq_true, Bool.or_true, if_true]
    unfold strE
    rw [if_pos hm]
    simp
  · have ht : f.t ≠ e.t := fun h => ef (time_one hG.times hf he h)
    have hv : f.v ≠ e.v := fun h => ef (key_one hG.keys hf he h)
    have hb : (f.t == e.t) = false := by simpa using ht
    rw [hb, Bool.or_false]
    by_cases hc : seen.contains f.t = true
    · simp only [hc, if_true]
      unfold strE
      split
      · rfl
      · simp [hv]
    · simp only [hc]
      simp [hv]

/-! ### the map of maps -/
/-- An entry: a slot, the block of its map, when it was laid. -/
structure On where
  s : Int
  b : Nat
  t : Nat
def On.ent (e : On) : MapEntry := ⟨.int .i64 e.s, .map (some e.b), e.t⟩
theorem keyI : Keyed Tryz.prog 3 := Maps.int_keyed Tryz.underlying3
theorem keyI_mk {n : Int} (hn : i64 n) : keyOf Tryz.prog 3 (.int .i64 n) = some (.int .i64 n) := by
  simp [keyOf, Tryz.underlying3, mapKey, hn]
structure GoodO (L : List On) (c : Nat) : Prop where
  lt : ∀ e ∈ L, e.t < c
  keys : L.Pairwise fun e f => e.s ≠ f.s
  ok : ∀ e ∈ L, i64 e.s
/-- Block mb is the map whose entries are L. -/
def OM (w : World) (mb : Nat) (L : List On) (c : Nat) : Prop := w.heap[mb]? = some (.map (L.map On.ent).toArray c) ∧ GoodO L c
theorem OM.lt {w : World} {b : Nat} {L : List On} {c : Nat} (h : OM w b L c) : b < w.heap.size := (Array.getElem?_eq_some_iff.1 h.1).1
theorem OM.of_block {w w' : World} {b : Nat} {L : List On} {c : Nat} (h : OM w b L c) (hb : w'.heap[b]? = w.heap[b]?) : OM w' b L c := ⟨hb.trans h.1, h.2⟩
theorem OM.made (w : World) : OM (w.alloc (.map #[] 0)) w.heap.size [] 0 := ⟨(MapKept.heap_alloc w _).1, by
  exact { lt := fun e he => (by cases he), keys := List.Pairwise.nil, ok := fun e he => (by cases he) }⟩
/-- The block of a slot's map. -/
def blkO (L : List On) (s : Int) : Option Nat := (L.find? fun e => decide (e.s = s)).map On.b
theorem blk_some {L : List On} {s : Int} {b : Nat} (h : blkO L s = some b) : ∃ e ∈ L, e.s = s ∧ e.b = b := by
  unfold blkO at h
  cases hf : L.find? fun e => decide (e.s = s) with
  | none => rw [hf] at h; cases h
  | some e =>
    rw [hf] at h
    injection h with h
    exact ⟨e, List.mem_of_find?_eq_some hf, by simpa using List.find?_some hf, h⟩
theorem blk_none {L : List On} {s : Int} (h : blkO L s = none) : ∀ e ∈ L, e.s ≠ s := by
  unfold blkO at h
  cases hf : L.find? fun e => decide (e.s = s) with
  | none => exact fun e he => by simpa using List.find?_eq_none.1 hf e he
  | some e => rw [hf] at h; cases h
theorem blk_push {L : List On} {s : Int} (h : blkO L s = none) (b t : Nat) (s' : Int) : blkO (L ++ [⟨s, b, t⟩]) s' = if s' = s then some b else blkO L s' := by
  have hn := blk_none h
  unfold blkO
  rw [List.find?_append]
  by_cases e : s' = s
  · subst e
    rw [if_pos rfl, List.find?_eq_none.2 fun e he => by simpa using hn e he]
    simp
  · rw [if_neg e]
    cases hf : L.find? fun e => decide (e.s = s') with
    | some x => rfl
    | none => simp; exact fun h => e h.symm
theorem ent_toListO (L : List On) : ((L.map On.ent).toArray).toList = L.map On.ent := by simp
theorem OM.find {w : World} {b : Nat} {L : List On} {c : Nat} (h : OM w b L c) {s : Int} (hs : i64 s) :
    ((Instr.findKey 3 (.int .i64 s) (L.map On.ent)).run Tryz.prog w = .ok none w ∧ blkO L s = none) ∨
    ∃ j z, (Instr.findKey 3 (.int .i64 s) (L.map On.ent)).run Tryz.prog w = .ok (some (j, .map (some z))) w ∧ blkO L s = some z := by
  rcases keyI.find w (keyI_mk hs) (L.map On.ent) (fun x hx => by
      obtain ⟨e, he, rfl⟩ := List.mem_map.1 hx
      exact ⟨_, keyI_mk (h.2.ok e he)⟩) with ⟨h1, h2⟩ | ⟨j, x, h1, h2, h3⟩
  · refine .inl ⟨h1, ?_⟩
    unfold blkO
    rw [List.find?_eq_none.2 fun e he => ?_]
    · rfl
    · have := h2 e.ent (List.mem_map.2 ⟨e, he, rfl⟩)
      simp only [decide_eq_true_eq]
      intro e1
      exact this (by rw [← e1]; rfl)
  · rw [List.getElem?_map, Option.map_eq_some_iff] at h2
    obtain ⟨e, he, rfl⟩ := h2
    have hes : e.s = s := by
      have : Value.int .i64 e.s = .int .i64 s := h3
      injection this
    refine .inr ⟨j, e.b, h1, ?_⟩
    cases hb : blkO L s with
    | none => exact absurd hes (blk_none hb e (List.mem_of_getElem? he))
    | some z =>
      obtain ⟨f, hf, fs, rfl⟩ := blk_some hb
      have hk := h.2.keys
      have : ∀ (L : List On), L.Pairwise (fun e f => e.s ≠ f.s) → ∀ e ∈ L, ∀ f ∈ L, e.s = f.s → e = f := by
        intro L
        induction L with
        | nil => intro _ e he; cases he
        | cons a L ih =>
          intro hp e he f hf hv
          obtain ⟨h1, h2⟩ := List.pairwise_cons.1 hp
          rcases List.mem_cons.1 he with e1 | he1
          · rcases List.mem_cons.1 hf with e2 | hf1
            · exact e1.trans e2.symm
            · exact absurd (e1 ▸ hv) (h1 f hf1)
          · rcases List.mem_cons.1 hf with e2 | hf1
            · exact absurd (e2 ▸ hv.symm) (h1 e he1)
            · exact ih h2 e he1 f hf1 hv
      rw [this L hk e (List.mem_of_getElem? he) f hf (hes.trans fs.symm)]
/-- 'm[k]'. -/
theorem OM.look {w : World} {b : Nat} {L : List On} {c : Nat} (h : OM w b L c) {s : Int} (hs : i64 s) :
    (Instr.lookup 54 (.map (some b)) (.int .i64 s) false).run Tryz.prog w = .ok (.map (blkO L s)) w := by
  rcases h.find hs with ⟨h1, h2⟩ | ⟨j, z, h1, h2⟩
  · rw [h2]
    simp [Instr.lookup, run_underlying Tryz.underlying54, MapKept.run_getObj_map h.1, keyI.check w _ (keyI_mk hs), h1, Result.andThen]
  · rw [h2]
    simp [Instr.lookup, run_underlying Tryz.underlying54, MapKept.run_getObj_map h.1, keyI.check w _ (keyI_mk hs), h1, Result.andThen]
/-- 'm[k] = x', where k is not there. -/
theorem OM.store {w : World} {b : Nat} {L : List On} {c : Nat} (h : OM w b L c) {s : Int} (hs : i64 s) (hn : blkO L s = none) (z : Nat) :
    ∃ w', (Instr.mapUpdate 54 (.map (some b)) (.int .i64 s) (.map (some z))).run Tryz.prog w = .ok () w' ∧ OM w' b (L ++ [⟨s, z, c⟩]) (c + 1) ∧ w' = setBlock w b (.map ((L ++ [(⟨s, z, c⟩ : On)]).map On.ent).toArray (c + 1)) := by
  rcases h.find hs with ⟨h1, h2⟩ | ⟨j, z, h1, h2⟩
  · have hno := blk_none h2
    refine ⟨_, ?_, ⟨heap_setBlock_same h.1 _, ?_⟩, rfl⟩
    · have ha : ((L.map On.ent).toArray).push ⟨.int .i64 s, .map (some z), c⟩ = ((L ++ [(⟨s, z, c⟩ : On)]).map On.ent).toArray := by
        apply Array.ext'
        simp [On.ent]
      rw [← ha]
      simp [Instr.mapUpdate, run_underlying Tryz.underlying54, MapKept.run_getObj_map h.1, keyI.check w false (keyI_mk hs), h1, MapKept.run_setObj_map _ h.1, Result.andThen, setBlock]
    · refine ⟨fun e he => ?_, ?_, fun e he => ?_⟩
      · rcases List.mem_append.1 he with he | he
        · exact Nat.lt_succ_of_lt (h.2.lt e he)
        · simp at he; rw [he]; exact Nat.lt_succ_self c
      · rw [List.pairwise_append]
        refine ⟨h.2.keys, by simp, fun a ha b hb => ?_⟩
        simp at hb
        rw [hb]; exact hno a ha
      · rcases List.mem_append.1 he with he | he
        · exact h.2.ok e he
        · simp at he; rw [he]; exact hs
  · rw [hn] at h2; cases h2

/-- What the program notes, in memory: by slots, what a node voted for. -/
structure VT (B : Nat) (w : World) (mb : Nat) (O : List On) (c : Nat) (T : Int → Row) : Prop where
  om : OM w mb O c
  row : ∀ s b, blkO O s = some b → b ≠ mb ∧ ∃ L cl, IM w b L cl ∧ rowE L = T s
  no : ∀ s, blkO O s = none → T s = []
  apart : ∀ s s' b, blkO O s = some b → blkO O s' = some b → s = s'
  lo : B ≤ mb
  los : ∀ s b, blkO O s = some b → B ≤ b
theorem VT.of_maps {w w' : World} {B mb : Nat} {O : List On} {c : Nat} {T : Int → Row} (h : VT B w mb O c T) (hm : ∀ (b : Nat) (es : Array MapEntry) (cl : Nat), w.heap[b]? = some (Obj.map es cl) → w'.heap[b]? = w.heap[b]?)   : VT B w' mb O c T :=
  ⟨h.om.of_block (hm _ _ _ h.om.1), fun s b hb => by
    obtain ⟨h1, L, cl, h2, h3⟩ := h.row s b hb
    exact ⟨h1, L, cl, h2.of_block (hm _ _ _ h2.1), h3⟩, h.no, h.apart, h.lo, h.los⟩
end Go.Proofs.YtkcbmkedhipgeaaGreatDoor
