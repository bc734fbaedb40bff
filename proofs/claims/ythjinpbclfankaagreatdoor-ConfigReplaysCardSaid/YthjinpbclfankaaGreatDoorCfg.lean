/-
  A config as plain data: what one is, what an order makes of it, where a block is, by definition.
-/
import Derived.Handy
namespace Go.Proofs.YthjinpbclfankaaGreatDoor
open Go.RowKit

structure Pt where
  f : Int
  t : Int
  a : Int
  b : Int
structure Cf where
  e : Int
  srv : List Int
  pts : List Pt
  t : Int
structure Od where
  k : Int
  n : Int
  m : Int
  f : Int
  t : Int

/-! ### what a config is -/
def srvOk (last : Int) : List Int → Bool
  | [] => true
  | x :: l => decide (0 ≤ x ∧ x < 8 ∧ last < x) && srvOk x l
def ptOk (srv : List Int) (at_ : Int) (p : Pt) : Prop := p.f = at_ ∧ at_ < p.t ∧ p.a ∈ srv ∧ p.b ∈ srv ∧ p.a ≠ p.b
instance (srv : List Int) (at_ : Int) (p : Pt) : Decidable (ptOk srv at_ p) := by unfold ptOk; infer_instance
/-- The parts go from at_ to till, each on two of the servers. -/
def ptsOk (srv : List Int) (at_ till : Int) : List Pt → Bool
  | [] => decide (at_ = till)
  | p :: l => decide (ptOk srv at_ p) && ptsOk srv p.t till l
def headOk (c : Cf) : Prop := 1 ≤ c.e ∧ c.e ≤ 1099511627776 ∧ 1 ≤ c.t ∧ c.t ≤ 8
def Cf.ok (c : Cf) : Prop := headOk c ∧ 2 ≤ c.srv.length ∧ srvOk (-1) c.srv = true ∧ ptsOk c.srv 0 256 c.pts = true
instance (c : Cf) : Decidable c.ok := by unfold Cf.ok headOk; infer_instance
/-- What Check tells. -/
def chk (c : Cf) : Int := if c.ok then 0 else 1
theorem chk_ok {c : Cf} (h : c.ok) : chk c = 0 := if_pos h
theorem chk_no {c : Cf} (h : ¬ c.ok) : chk c = 1 := if_neg h
theorem ok_of_chk {c : Cf} (h : chk c = 0) : c.ok := by
  by_cases k : c.ok
  · exact k
  · rw [chk_no k] at h; cases h

theorem srvOk_lt {last : Int} {l : List Int} (h : srvOk last l = true) : ∀ x ∈ l, 0 ≤ x ∧ x < 8 ∧ last < x := by
  induction l generalizing last with
  | nil => intro x hx; cases hx
  | cons y l ih =>
    simp only [srvOk, Bool.and_eq_true, decide_eq_true_eq] at h
    intro x hx
    rcases List.mem_cons.1 hx with rfl | hx
    · exact h.1
    · have := ih h.2 x hx; omega
theorem srvOk_len {last : Int} {l : List Int} (h : srvOk last l = true) (hl : -1 ≤ last) : (l.length : Int) ≤ 7 - last ∨ l = [] := by
  induction l generalizing last with
  | nil => exact .inr rfl
  | cons y l ih =>
    simp only [srvOk, Bool.and_eq_true, decide_eq_true_eq] at h
    left
    rcases ih h.2 (by omega) with k | rfl
    · rw [List.length_cons]; omega
    · simp; omega
theorem srvOk_len8 {l : List Int} (h : srvOk (-1) l = true) : l.length ≤ 8 := by
  rcases srvOk_len h (by omega) with k | rfl
  · omega
  · simp
theorem srvOk_nodup {last : Int} {l : List Int} (h : srvOk last l = true) : ∀ (i j : Nat) (x y : Int), l[i]? = some x → l[j]? = some y → i < j → x < y := by
  induction l generalizing last with
  | nil => intro i j x y hx; simp at hx
  | cons z l ih =>
    simp only [srvOk, Bool.and_eq_true, decide_eq_true_eq] at h
    intro i j x y hx hy hij
    cases j with
    | zero => omega
    | succ j =>
      simp only [List.getElem?_cons_succ] at hy
      cases i with
      | zero =>
        simp at hx; subst hx
        exact (srvOk_lt h.2 y (List.mem_of_getElem? hy)).2.2
      | succ i => exact ih h.2 i j x y (by simpa using hx) hy (by omega)
/-- By places: each is a node, and above the one ahead. -/
theorem srvOk_of {last : Int} {l : List Int} (h : ∀ (i : Nat) (x : Int), l[i]? = some x → 0 ≤ x ∧ x < 8) (h0 : ∀ x, l[0]? = some x → last < x) (hs : ∀ (i : Nat) (x y : Int), l[i]? = some x → l[i + 1]? = some y → x < y) : srvOk last l = true := by
  induction l generalizing last with
  | nil => rfl
  | cons z l ih =>
    simp only [srvOk, Bool.and_eq_true, decide_eq_true_eq]
    have a := h 0 z rfl
    have b := h0 z rfl
    refine ⟨⟨a.1, a.2, b⟩, ih (fun i x hx => h (i + 1) x (by simpa using hx)) (fun x hx => hs 0 z x rfl (by simpa using hx)) (fun i x y hx hy => hs (i + 1) x y (by simpa using hx) (by simpa using hy))⟩

/-! ### where a block is -/
def whr (k : Int) : List Pt → Option (Int × Int)
  | [] => none
  | p :: l => if p.f ≤ k ∧ k < p.t then some (p.a, p.b) else whr k l
/-- The copies of a block. -/
def cop (l : List Pt) (k : Int) : Int × Int := (whr k l).getD (0, 0)
theorem ptsOk_le {srv : List Int} {at_ till : Int} {l : List Pt} (h : ptsOk srv at_ till l = true) : at_ ≤ till := by
  induction l generalizing at_ with
  | nil => simp [ptsOk] at h; omega
  | cons p l ih =>
    simp only [ptsOk, Bool.and_eq_true, decide_eq_true_eq] at h
    have := ih h.2
    have := h.1.2.1
    omega
theorem whr_some {srv : List Int} {at_ till : Int} {l : List Pt} (h : ptsOk srv at_ till l = true) {k : Int} (h1 : at_ ≤ k) (h2 : k < till) : ∃ x, whr k l = some x ∧ x.1 ∈ srv ∧ x.2 ∈ srv ∧ x.1 ≠ x.2 := by
  induction l generalizing at_ with
  | nil => simp [ptsOk] at h; omega
  | cons p l ih =>
    simp only [ptsOk, Bool.and_eq_true, decide_eq_true_eq] at h
    obtain ⟨⟨g1, g2, g3, g4, g5⟩, hl⟩ := h
    unfold whr
    by_cases hk : p.f ≤ k ∧ k < p.t
    · rw [if_pos hk]; exact ⟨_, rfl, g3, g4, g5⟩
    · rw [if_neg hk]; exact ih hl (by omega)
theorem whr_none {srv : List Int} {at_ till : Int} {l : List Pt} (h : ptsOk srv at_ till l = true) {k : Int} (h1 : k < at_ ∨ till ≤ k) : whr k l = none := by
  induction l generalizing at_ with
  | nil => rfl
  | cons p l ih =>
    simp only [ptsOk, Bool.and_eq_true, decide_eq_true_eq] at h
    obtain ⟨⟨g1, g2, g3, g4, g5⟩, hl⟩ := h
    have := ptsOk_le hl
    unfold whr
    rw [if_neg (by omega)]
    exact ih hl (by omega)
theorem whr_cop {srv : List Int} {at_ till : Int} {l : List Pt} (h : ptsOk srv at_ till l = true) {k : Int} (h1 : at_ ≤ k) (h2 : k < till) : whr k l = some (cop l k) := by
  obtain ⟨x, hx, -⟩ := whr_some h h1 h2
  unfold cop; rw [hx]; rfl
theorem cop_ok {srv : List Int} {at_ till : Int} {l : List Pt} (h : ptsOk srv at_ till l = true) {k : Int} (h1 : at_ ≤ k) (h2 : k < till) : (cop l k).1 ∈ srv ∧ (cop l k).2 ∈ srv ∧ (cop l k).1 ≠ (cop l k).2 := by
  obtain ⟨x, hx, g⟩ := whr_some h h1 h2
  unfold cop; rw [hx]; exact g

/-! ### parts, put together -/
/-- A piece behind what is there: put to the last one, if that has the same copies. -/
def jn (out : List Pt) (p : Pt) : List Pt :=
  if p.t ≤ p.f then out else
    match out.getLast? with
    | some q => if q.a = p.a ∧ q.b = p.b then out.set (out.length - 1) { q with t := p.t } else out ++ [p]
    | none => out ++ [p]
def join (l : List Pt) : List Pt := l.foldl jn []
/-- The blocks from k on, n of them, one by one. -/
def prt (g : Int → Int × Int) : Nat → Int → List Pt → List Pt
  | 0, _, out => out
  | n + 1, k, out => prt g n (k + 1) (jn out ⟨k, k + 1, (g k).1, (g k).2⟩)
theorem jn_none (out : List Pt) (p : Pt) (h : p.t ≤ p.f) : jn out p = out := if_pos h
theorem jn_nil (p : Pt) (h : p.f < p.t) : jn [] p = [p] := by unfold jn; rw [if_neg (by omega)]; rfl
theorem jn_last (out : List Pt) (q p : Pt) (h : p.f < p.t) : jn (out ++ [q]) p = if q.a = p.a ∧ q.b = p.b then out ++ [{ q with t := p.t }] else out ++ [q, p] := by
  unfold jn
  rw [if_neg (by omega)]
  simp only [List.getLast?_append, List.getLast?_singleton, Option.some_or]
  split
  · simp
  · simp
theorem list_last (l : List Pt) : l = [] ∨ ∃ k q, l = k ++ [q] := by
  by_cases h : l = []
  · exact .inl h
  · exact .inr ⟨l.dropLast, l.getLast h, (List.dropLast_concat_getLast h).symm⟩
/-- Two pieces that touch and have the same copies are one. -/
theorem jn_two (out : List Pt) (x y z a b : Int) (h1 : x < y) (h2 : y < z) : jn (jn out ⟨x, y, a, b⟩) ⟨y, z, a, b⟩ = jn out ⟨x, z, a, b⟩ := by
  rcases list_last out with rfl | ⟨k, q, rfl⟩
  · rw [jn_nil _ h1, jn_nil _ (by show x < z; omega)]
    have := jn_last [] ⟨x, y, a, b⟩ ⟨y, z, a, b⟩ h2
    rw [if_pos ⟨rfl, rfl⟩] at this
    exact this
  · rw [jn_last k q ⟨x, y, a, b⟩ h1, jn_last k q ⟨x, z, a, b⟩ (by show x < z; omega)]
    by_cases e : q.a = a ∧ q.b = b
    · rw [if_pos e, if_pos e, jn_last _ _ _ h2, if_pos e]
    · rw [if_neg e, if_neg e]
      have e2 : k ++ [q, (⟨x, y, a, b⟩ : Pt)] = (k ++ [q]) ++ [⟨x, y, a, b⟩] := by simp
      rw [e2, jn_last _ _ _ h2, if_pos ⟨rfl, rfl⟩]
      simp
theorem prt_add (g : Int → Int × Int) (n m : Nat) (k : Int) (out : List Pt) : prt g (n + m) k out = prt g m (k + n) (prt g n k out) := by
  induction n generalizing k out with
  | zero => simp [prt]
  | succ n ih =>
    rw [show n + 1 + m = (n + m) + 1 by omega]
    simp only [prt]
    rw [ih, show k + 1 + (n : Int) = k + ((n + 1 : Nat) : Int) by omega]
theorem prt_congr {g g' : Int → Int × Int} {n : Nat} {k : Int} (h : ∀ j, k ≤ j → j < k + n → g j = g' j) (out : List Pt) : prt g n k out = prt g' n k out := by
  induction n generalizing k out with
  | zero => rfl
  | succ n ih =>
    simp only [prt]
    rw [h k (by omega) (by omega), ih (fun j h1 h2 => h j (by omega) (by omega))]
/-- Blocks that have the same copies are one piece. -/
theorem prt_one {g : Int → Int × Int} {n : Nat} {k a b : Int} (h : ∀ j, k ≤ j → j < k + n → g j = (a, b)) (hn : 0 < n) (out : List Pt) : prt g n k out = jn out ⟨k, k + n, a, b⟩ := by
  induction n with
  | zero => omega
  | succ n ih =>
    by_cases h0 : n = 0
    · subst h0
      simp only [prt]
      rw [h k (by omega) (by omega)]
      rfl
    · rw [prt_add g n 1, ih (fun j h1 h2 => h j h1 (by omega)) (by omega)]
      simp only [prt]
      rw [h (k + n) (by omega) (by omega)]
      have := jn_two out k (k + n) (k + n + 1) a b (by omega) (by omega)
      rw [show k + ((n + 1 : Nat) : Int) = k + n + 1 by omega]
      exact this
/-- A piece, or nothing. -/
theorem prt_seg {g : Int → Int × Int} {x y a b : Int} (h : ∀ j, x ≤ j → j < y → g j = (a, b)) (out : List Pt) : jn out ⟨x, y, a, b⟩ = prt g (y - x).toNat x out := by
  by_cases hxy : y ≤ x
  · rw [jn_none _ _ hxy, show (y - x).toNat = 0 by omega]; rfl
  · rw [prt_one (n := (y - x).toNat) (a := a) (b := b) (fun j h1 h2 => h j h1 (by omega)) (by omega), show x + ((y - x).toNat : Int) = y by omega]
/-- Parts that follow one another, block by block, whatever becomes of each. -/
theorem join_any {srv : List Int} {till : Int} {g : Int → Int × Int} {ps : List Pt} {pieces : Pt → List Pt}
    (hp : ∀ p ∈ ps, ∀ out, (pieces p).foldl jn out = prt g (p.t - p.f).toNat p.f out) {at_ : Int} (h : ptsOk srv at_ till ps = true) (out : List Pt) : (ps.flatMap pieces).foldl jn out = prt g (till - at_).toNat at_ out := by
  induction ps generalizing at_ out with
  | nil => simp [ptsOk] at h; subst h; simp [prt]
  | cons p l ih =>
    simp only [ptsOk, Bool.and_eq_true, decide_eq_true_eq] at h
    obtain ⟨⟨g1, g2, -⟩, hl⟩ := h
    have hle := ptsOk_le hl
    rw [List.flatMap_cons, List.foldl_append, hp p (by simp), ih (fun q hq => hp q (by simp [hq])) hl]
    rw [show (till - at_).toNat = (p.t - p.f).toNat + (till - p.t).toNat by omega, prt_add, g1, show at_ + ((p.t - at_).toNat : Int) = p.t by omega]

/-! ### parts that were put together are parts -/
theorem ptsOk_more {srv : List Int} {at_ till : Int} {l : List Pt} (h : ptsOk srv at_ till l = true) {p : Pt} (hp : ptOk srv till p) : ptsOk srv at_ p.t (l ++ [p]) = true := by
  induction l generalizing at_ with
  | nil => simp [ptsOk] at h; subst h; simp [ptsOk, hp]
  | cons q l ih =>
    simp only [ptsOk, Bool.and_eq_true, List.cons_append] at h ⊢
    exact ⟨h.1, ih h.2⟩
theorem ptsOk_front {srv : List Int} {at_ till : Int} {l : List Pt} {q : Pt} (h : ptsOk srv at_ till (l ++ [q]) = true) : ptsOk srv at_ q.f l = true ∧ ptOk srv q.f q ∧ q.t = till := by
  induction l generalizing at_ with
  | nil =>
    simp [ptsOk] at h
    obtain ⟨h1, h2⟩ := h
    have := h1.1
    exact ⟨by simp [ptsOk, this], by rw [this]; exact h1, h2⟩
  | cons r l ih =>
    simp only [ptsOk, Bool.and_eq_true, List.cons_append] at h ⊢
    obtain ⟨a, b, c⟩ := ih h.2
    exact ⟨⟨h.1, a⟩, b, c⟩
theorem whr_cons (k : Int) (p : Pt) (l : List Pt) : whr k (p :: l) = if p.f ≤ k ∧ k < p.t then some (p.a, p.b) else whr k l := rfl
theorem whr_yes {k : Int} {p : Pt} (h : p.f ≤ k ∧ k < p.t) (l : List Pt) : whr k (p :: l) = some (p.a, p.b) := if_pos h
theorem whr_no {k : Int} {p : Pt} (h : ¬ (p.f ≤ k ∧ k < p.t)) (l : List Pt) : whr k (p :: l) = whr k l := if_neg h
theorem whr_append (k : Int) (l m : List Pt) : whr k (l ++ m) = (whr k l).or (whr k m) := by
  induction l with
  | nil => rfl
  | cons p l ih =>
    rw [List.cons_append]
    by_cases h : p.f ≤ k ∧ k < p.t
    · rw [whr_yes h, whr_yes h]; rfl
    · rw [whr_no h, whr_no h]; exact ih
/-- A piece behind what is there: still parts, and where blocks are. -/
theorem jn_ok {srv : List Int} {till : Int} {l : List Pt} (h : ptsOk srv 0 till l = true) {p : Pt} (hp : ptOk srv till p) : ptsOk srv 0 p.t (jn l p) = true ∧ ∀ k, 0 ≤ k → k < p.t → whr k (jn l p) = if k < till then whr k l else some (p.a, p.b) := by
  obtain ⟨e1, e2, e3⟩ := hp
  have hlt : p.f < p.t := by omega
  rcases list_last l with rfl | ⟨m, q, rfl⟩
  · rw [jn_nil _ hlt]
    simp [ptsOk] at h
    subst h
    refine ⟨by simp [ptsOk]; exact ⟨e1, e2, e3⟩, fun k h1 h2 => ?_⟩
    rw [whr_yes (p := p) ⟨by omega, h2⟩, if_neg (by omega)]
  · obtain ⟨f1, ⟨f2, f3, f4, f5, f6⟩, f7⟩ := ptsOk_front h
    rw [jn_last _ _ _ hlt]
    by_cases hab : q.a = p.a ∧ q.b = p.b
    · rw [if_pos hab]
      refine ⟨ptsOk_more f1 (p := { q with t := p.t }) ⟨rfl, by show q.f < p.t; omega, f4, f5, f6⟩, fun k h1 h2 => ?_⟩
      rw [whr_append, whr_append]
      by_cases hk : k < q.f
      · rw [whr_no (p := { q with t := p.t }) (fun h => by have := h.1; have : q.f ≤ k := this; omega), whr_no (p := q) (fun h => by omega), if_pos (by omega)]
      · rw [whr_none f1 (.inr (by omega)), whr_yes (p := { q with t := p.t }) ⟨by show q.f ≤ k; omega, by show k < p.t; omega⟩]
        by_cases hk2 : k < till
        · rw [whr_yes (p := q) ⟨by omega, by omega⟩, if_pos hk2]
        · rw [if_neg hk2]
          show some (q.a, q.b) = _
          rw [hab.1, hab.2]
    · rw [if_neg hab]
      have e : m ++ [q, p] = (m ++ [q]) ++ [p] := by simp
      rw [e]
      refine ⟨ptsOk_more h ⟨e1, e2, e3⟩, fun k h1 h2 => ?_⟩
      rw [whr_append (m := [p])]
      by_cases hk : k < till
      · rw [if_pos hk, whr_no (p := p) (fun h => by omega)]
        cases whr k (m ++ [q]) <;> rfl
      · rw [if_neg hk, whr_yes (p := p) ⟨by omega, by omega⟩, whr_none h (.inr (by omega))]; rfl
theorem prt_ok {srv : List Int} {g : Int → Int × Int} (hg : ∀ k, 0 ≤ k → k < 256 → (g k).1 ∈ srv ∧ (g k).2 ∈ srv ∧ (g k).1 ≠ (g k).2) (n : Nat) (hn : n ≤ 256) : ptsOk srv 0 n (prt g n 0 []) = true ∧ ∀ k : Int, 0 ≤ k → k < n → whr k (prt g n 0 []) = some (g k) := by
  induction n with
  | zero => exact ⟨by simp [ptsOk, prt], fun k h1 h2 => by omega⟩
  | succ n ih =>
    obtain ⟨a, b⟩ := ih (by omega)
    rw [prt_add g n 1]
    simp only [prt, Int.zero_add]
    obtain ⟨a', b'⟩ := jn_ok a (p := ⟨n, n + 1, (g n).1, (g n).2⟩) ⟨rfl, by show (n : Int) < n + 1; omega, hg n (by omega) (by omega)⟩
    refine ⟨by simpa using a', fun k h1 h2 => ?_⟩
    rw [b' k h1 (by show k < (n : Int) + 1; omega)]
    by_cases hk : k < n
    · rw [if_pos hk]; exact b k h1 hk
    · rw [if_neg hk, show k = (n : Int) by omega]
/-- All of the disk, block by block. -/
def pts (g : Int → Int × Int) : List Pt := prt g 256 0 []
theorem pts_ok {srv : List Int} {g : Int → Int × Int} (hg : ∀ k, 0 ≤ k → k < 256 → (g k).1 ∈ srv ∧ (g k).2 ∈ srv ∧ (g k).1 ≠ (g k).2) : ptsOk srv 0 256 (pts g) = true := by
  obtain ⟨h, -⟩ := prt_ok hg 256 (Nat.le_refl _)
  rw [show ((256 : Nat) : Int) = 256 from rfl] at h
  unfold pts; exact h
theorem pts_whr {srv : List Int} {g : Int → Int × Int} (hg : ∀ k, 0 ≤ k → k < 256 → (g k).1 ∈ srv ∧ (g k).2 ∈ srv ∧ (g k).1 ≠ (g k).2) {k : Int} (h1 : 0 ≤ k) (h2 : k < 256) : whr k (pts g) = some (g k) := by
  obtain ⟨-, h⟩ := prt_ok hg 256 (Nat.le_refl _)
  rw [show ((256 : Nat) : Int) = 256 from rfl] at h
  unfold pts; exact h k h1 h2
theorem pts_cop {srv : List Int} {g : Int → Int × Int} (hg : ∀ k, 0 ≤ k → k < 256 → (g k).1 ∈ srv ∧ (g k).2 ∈ srv ∧ (g k).1 ≠ (g k).2) {k : Int} (h1 : 0 ≤ k) (h2 : k < 256) : cop (pts g) k = g k := by
  unfold cop; rw [pts_whr hg h1 h2]; rfl
theorem pts_congr {g g' : Int → Int × Int} (h : ∀ k, 0 ≤ k → k < 256 → g k = g' k) : pts g = pts g' := by
  unfold pts; exact prt_congr (n := 256) (fun j h1 h2 => h j h1 (by omega)) _
theorem join_pts {srv : List Int} {g : Int → Int × Int} {ps : List Pt} {pieces : Pt → List Pt} (hp : ∀ p ∈ ps, ∀ out, (pieces p).foldl jn out = prt g (p.t - p.f).toNat p.f out) (h : ptsOk srv 0 256 ps = true) : join (ps.flatMap pieces) = pts g := by
  have := join_any hp h []
  rw [show ((256 : Int) - 0).toNat = 256 from rfl] at this
  unfold pts; exact this

/-! ### how many parts there are -/
theorem jn_len (out : List Pt) (p : Pt) : (jn out p).length ≤ out.length + 1 := by
  unfold jn
  split
  · omega
  · split
    · split
      · simp
      · simp
    · simp
/-- Where the copies change. -/
def chg (g : Int → Int × Int) (n : Nat) : Nat :=
  match n with
  | 0 => 0
  | n + 1 => chg g n + (if g n = g (n + 1) then 0 else 1)
theorem prt_last (g : Int → Int × Int) (n : Nat) : ∃ l q, prt g (n + 1) 0 [] = l ++ [q] ∧ (q.a, q.b) = g n ∧ l.length = chg g n := by
  induction n with
  | zero => exact ⟨[], ⟨0, 1, (g 0).1, (g 0).2⟩, by simp [prt, jn_nil], by simp, rfl⟩
  | succ n ih =>
    obtain ⟨l, q, h1, h2, h3⟩ := ih
    rw [prt_add g (n + 1) 1, h1]
    simp only [prt, Int.zero_add]
    rw [jn_last _ _ _ (show (((n + 1 : Nat)) : Int) < (((n + 1 : Nat)) : Int) + 1 by omega)]
    have hc : chg g (n + 1) = chg g n + (if g n = g (n + 1) then 0 else 1) := rfl
    have hn : (((n + 1 : Nat)) : Int) = (n : Int) + 1 := by omega
    by_cases e : g n = g (n + 1)
    · rw [hn, if_pos (by rw [← e, ← h2]; exact ⟨rfl, rfl⟩)]
      exact ⟨l, _, rfl, by rw [← e]; exact h2, by rw [hc, if_pos e]; exact h3⟩
    · rw [hn, if_neg (fun h => e (by rw [← h2]; exact Prod.ext h.1 h.2))]
      exact ⟨l ++ [q], ⟨(n : Int) + 1, (n : Int) + 1 + 1, (g ((n : Int) + 1)).1, (g ((n : Int) + 1)).2⟩, by simp, rfl, by rw [hc, if_neg e, List.length_append, h3]; rfl⟩
theorem pts_len (g : Int → Int × Int) : (pts g).length = chg g 255 + 1 := by
  obtain ⟨l, q, h1, -, h3⟩ := prt_last g 255
  unfold pts; rw [h1, List.length_append, h3]; rfl
/-- A range that is set anew changes the copies at its two ends alone. -/
theorem chg_set (g g' : Int → Int × Int) (x y : Int) (z : Int × Int) (h : ∀ k, g' k = if x ≤ k ∧ k < y then z else g k) (n : Nat) : chg g' n ≤ chg g n + (if 0 < x ∧ x ≤ n then 1 else 0) + (if 0 < y ∧ y ≤ n then 1 else 0) := by
  induction n with
  | zero => simp [chg]
  | succ n ih =>
    have h1 := h n
    have h2 := h (n + 1)
    have hn : (((n + 1 : Nat)) : Int) = (n : Int) + 1 := by omega
    show chg g' n + (if g' n = g' (n + 1) then 0 else 1) ≤ chg g n + (if g n = g (n + 1) then 0 else 1) + _ + _
    rw [hn]
    by_cases ex : x = n + 1
    · have a1 : (if 0 < x ∧ x ≤ (n : Int) then 1 else 0) = 0 := if_neg (by omega)
      have a2 : (if 0 < x ∧ x ≤ (n : Int) + 1 then 1 else 0) = 1 := if_pos (by omega)
      have a3 : (if 0 < y ∧ y ≤ (n : Int) then 1 else 0) ≤ (if 0 < y ∧ y ≤ (n : Int) + 1 then 1 else 0) := by split <;> split <;> omega
      rw [a1] at ih; rw [a2]
      have : (if g' n = g' (n + 1) then 0 else 1) ≤ 1 := by split <;> omega
      omega
    · have a1 : (if 0 < x ∧ x ≤ (n : Int) + 1 then 1 else 0) = (if 0 < x ∧ x ≤ (n : Int) then 1 else 0) := by
        by_cases q : 0 < x ∧ x ≤ (n : Int)
        · rw [if_pos q, if_pos (by omega)]
        · rw [if_neg q, if_neg (by omega)]
      rw [a1]
      by_cases ey : y = n + 1
      · have b1 : (if 0 < y ∧ y ≤ (n : Int) then 1 else 0) = 0 := if_neg (by omega)
        have b2 : (if 0 < y ∧ y ≤ (n : Int) + 1 then 1 else 0) = 1 := if_pos (by omega)
        rw [b1] at ih; rw [b2]
        have : (if g' n = g' (n + 1) then 0 else 1) ≤ 1 := by split <;> omega
        omega
      · have b1 : (if 0 < y ∧ y ≤ (n : Int) + 1 then 1 else 0) = (if 0 < y ∧ y ≤ (n : Int) then 1 else 0) := by
          by_cases q : 0 < y ∧ y ≤ (n : Int)
          · rw [if_pos q, if_pos (by omega)]
          · rw [if_neg q, if_neg (by omega)]
        rw [b1]
        have : (if g' n = g' (n + 1) then 0 else 1) ≤ (if g n = g (n + 1) then 0 else 1) := by
          by_cases q : x ≤ (n : Int) ∧ (n : Int) < y
          · have q2 : x ≤ (n : Int) + 1 ∧ (n : Int) + 1 < y := by omega
            rw [if_pos q] at h1
            rw [if_pos q2] at h2
            rw [if_pos (h1.trans h2.symm)]; exact Nat.zero_le _
          · have q2 : ¬ (x ≤ (n : Int) + 1 ∧ (n : Int) + 1 < y) := by omega
            rw [if_neg q] at h1
            rw [if_neg q2] at h2
            rw [h1, h2]; exact Nat.le_refl _
        omega
/-- Parts that are put together are no more than there were. -/
theorem join_len (l : List Pt) : ∀ out : List Pt, (l.foldl jn out).length ≤ out.length + l.length := by
  induction l with
  | nil => intro out; simp
  | cons p l ih =>
    intro out
    have a := ih (jn out p)
    have b := jn_len out p
    rw [List.foldl_cons, List.length_cons]; omega
theorem pts_self {srv : List Int} {l : List Pt} (h : ptsOk srv 0 256 l = true) : pts (cop l) = join l := by
  have key : ∀ (m : List Pt) (at_ : Int), ptsOk srv at_ 256 m = true → (∀ k, at_ ≤ k → cop l k = cop m k) → ∀ p ∈ m, ∀ k, p.f ≤ k → k < p.t → cop l k = (p.a, p.b) := by
    intro m
    induction m with
    | nil => intro _ _ _ p hp; cases hp
    | cons q m ih =>
      intro at_ hm hc p hp k h1 h2
      simp only [ptsOk, Bool.and_eq_true, decide_eq_true_eq] at hm
      obtain ⟨⟨g1, g2, g3⟩, hl⟩ := hm
      rcases List.mem_cons.1 hp with rfl | hp
      · rw [hc k (by omega)]
        unfold cop whr; rw [if_pos ⟨h1, h2⟩]; rfl
      · refine ih q.t hl (fun k hk => ?_) p hp k h1 h2
        rw [hc k (by omega)]
        unfold cop
        congr 1
        conv => lhs; unfold whr
        rw [if_neg (by omega)]
  have hk := key l 0 h (fun _ _ => rfl)
  have := join_pts (g := cop l) (pieces := fun p => [p]) (ps := l) (fun p hp out => by
    show jn out p = _
    exact prt_seg (x := p.f) (y := p.t) (a := p.a) (b := p.b) (fun j h1 h2 => hk p hp j h1 h2) out) h
  rw [← this]
  congr 1
  simp
theorem pts_le {srv : List Int} {l : List Pt} (h : ptsOk srv 0 256 l = true) : (pts (cop l)).length ≤ l.length := by
  rw [pts_self h]
  have := join_len l []
  simpa [join] using this
/-- What is placed anew makes two parts more, at the most. -/
theorem place_len {srv : List Int} {l : List Pt} (h : ptsOk srv 0 256 l = true) (x y : Int) (z : Int × Int) : (pts (fun k => if x ≤ k ∧ k < y then z else cop l k)).length ≤ l.length + 2 := by
  have a := pts_le h
  have b := chg_set (cop l) (fun k => if x ≤ k ∧ k < y then z else cop l k) x y z (fun _ => rfl) 255
  rw [pts_len] at a ⊢
  have c1 : (if 0 < x ∧ x ≤ ((255 : Nat) : Int) then 1 else 0) ≤ 1 := by split <;> omega
  have c2 : (if 0 < y ∧ y ≤ ((255 : Nat) : Int) then 1 else 0) ≤ 1 := by split <;> omega
  omega
/-- The blocks of each part. -/
theorem cop_part {srv : List Int} {l : List Pt} (h : ptsOk srv 0 256 l = true) : ∀ p ∈ l, ∀ k, p.f ≤ k → k < p.t → cop l k = (p.a, p.b) := by
  have key : ∀ (m : List Pt) (at_ : Int), ptsOk srv at_ 256 m = true → (∀ k, at_ ≤ k → cop l k = cop m k) → ∀ p ∈ m, ∀ k, p.f ≤ k → k < p.t → cop l k = (p.a, p.b) := by
    intro m
    induction m with
    | nil => intro _ _ _ p hp; cases hp
    | cons q m ih =>
      intro at_ hm hc p hp k h1 h2
      simp only [ptsOk, Bool.and_eq_true, decide_eq_true_eq] at hm
      obtain ⟨⟨g1, g2, g3⟩, hl⟩ := hm
      rcases List.mem_cons.1 hp with rfl | hp
      · rw [hc k (by omega)]
        unfold cop whr; rw [if_pos ⟨h1, h2⟩]; rfl
      · refine ih q.t hl (fun k hk => ?_) p hp k h1 h2
        rw [hc k (by omega)]
        unfold cop
        congr 1
        conv => lhs; unfold whr
        rw [if_neg (by omega)]
  exact key l 0 h (fun _ _ => rfl)
end Go.Proofs.YthjinpbclfankaaGreatDoor
