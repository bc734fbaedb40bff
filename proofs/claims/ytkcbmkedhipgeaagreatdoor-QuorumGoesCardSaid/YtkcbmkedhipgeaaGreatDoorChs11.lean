/-
  What the laws of layer 11 take: both groups new, a log as a copy, what Learn tells.

  Many calls of Up and Down, one behind the other; what Learn tells of two that are up.

  Texts of one's own that tell what was chosen, beside both groups.
-/
import Derived.Test.YtkcbmkedhipgeaaGreatDoorDoes11
import Derived.Test.YtkcbmkedhipgeaaGreatDoorSame11
namespace Go.Proofs.YtkcbmkedhipgeaaGreatDoor
open Go.RowKit Go.ChangeMaps

theorem BB.start {w w1 w2 w3 : World} {g r q : Nat} {P : Pl} {Q : Ql} (h1 : Below w.heap.size w w1) (hp : PG w2 g (Gp.start q) P) (hPB : P.B = w1.heap.size) (h2 : Below w1.heap.size w1 w2) (hr : RG w3 r (Gp.start q) Q) (hQB : Q.B = w2.heap.size) (h3 : Below w2.heap.size w2 w3) : BB w w3 g r (Gp.start q) (Gp.start q) P Q := by
  have z1 := h1.size
  have z2 := h2.size
  refine ⟨hp.below h3, hr, rfl, fun k hk i hi e => ?_, by rw [hPB]; exact z1, by rw [hQB]; omega, ?_⟩
  · have a := hp.F_lt hk
    have b := ((hr.nd i hi).log.lt e).1
    omega
  · have b2 := h1.trans (h2.mono z1)
    exact b2.trans (h3.mono b2.size)
/-- What Log answers is a copy. -/
theorem bb_log {w0 w : World} {g r : Nat} {S T : Gp} {P : Pl} {Q : Ql} (h : BB w0 w g r S T P Q) {m : Nat} (hL : LV S m) (hm : m ≤ 10000) (i : Int) :
    Calls Tryz.prog 16 #[.pointer (some ⟨g, 0, none⟩), .int .i64 i] w fun e w' => ∃ v, e = .returned v ∧ OwnsS w' w.heap.size v (logOf S i) ∧ (∀ k, v.ownBlock = some k → ¬ P.F S.n k) ∧ BB w0 w' g r S T P Q ∧ Below w.heap.size w w' := by
  refine (log_any h.pg i (fun k hk => by have := hL.log k hk; omega)).mono ?_
  rintro e w' ⟨v, rfl, ho, hb⟩
  exact ⟨v, rfl, ho, fun k hk hF => by have := (ho.lt hk).1; have := h.pg.F_lt hF; omega, (h.below hb).1, hb⟩
theorem bb_cho {w0 w : World} {g r : Nat} {S T : Gp} {P : Pl} {Q : Ql} (h : BB w0 w g r S T P Q) {m : Nat} (hL : LV S m) (s : Int) (hs : i64 s) :
    Calls Tryz.prog 18 #[.pointer (some ⟨g, 0, none⟩), .int .i64 s] w fun e w' => e = .returned (.tuple #[.string (choOf S s).1, .bool (choOf S s).2]) ∧ BB w0 w' g r S T P Q ∧ Below w.heap.size w w' := by
  refine (chosen_any h.pg hL.inv.tabOk s hs).mono ?_
  rintro e w' ⟨rfl, hb⟩
  exact ⟨rfl, (h.below hb).1, hb⟩
theorem bb_rcho {w0 w : World} {g r : Nat} {S T : Gp} {P : Pl} {Q : Ql} (h : BB w0 w g r S T P Q) {m : Nat} (hL : LV T m) (hm : m ≤ 10000) (s : Int) :
    Calls Tryz.prog 19 #[.pointer (some ⟨r, 0, none⟩), .int .i64 s] w fun e w' => e = .returned (.tuple #[.string (choOf T s).1, .bool (choOf T s).2]) ∧ BB w0 w' g r S T P Q ∧ Below w.heap.size w w' := by
  refine (rcho_any h.rg hL.inv (by have := hL.all; omega) s).mono ?_
  rintro e w' ⟨rfl, hb⟩
  exact ⟨rfl, (h.below hb).1, hb⟩
theorem logOf_len {S : Gp} {m : Nat} (h : LV S m) (i : Int) : (logOf S i).length ≤ m := by
  unfold logOf
  split
  · rename_i hh; exact h.log _ (has_nat hh).2
  · exact Nat.zero_le _
theorem same11_yes {w : World} {v1 v2 : Value} {l : List ByteArray} (h1 : Sh w v1 l) (h2 : Sh w v2 l) (hl : l.length ≤ 100000) : Calls Tryz.prog 15 #[v1, v2] w fun e w' => e = .returned (.bool true) ∧ Below w.heap.size w w' := by
  have := same11_any h1 h2 hl
  rw [decide_eq_true rfl] at this
  exact this
/-- The first of it. -/
theorem Sh.take {w : World} {A : Option Addr} {n c : Nat} {l : List ByteArray} (h : Sh w (.slice A n c) l) (k : Nat) (hk : k ≤ l.length) : Sh w (.slice A k c) (l.take k) := by
  obtain ⟨A', c', hv, hg⟩ := h
  simp only [Value.slice.injEq] at hv
  obtain ⟨rfl, -, rfl⟩ := hv
  refine ⟨A, c, by rw [List.length_take, Nat.min_eq_left hk], fun i x hx => hg i x ?_⟩
  rw [List.getElem?_take] at hx
  split at hx
  · exact hx
  · cases hx
theorem OwnsS.cap {w : World} {base : Nat} {A : Option Addr} {n c : Nat} {l : List ByteArray} (h : OwnsS w base (.slice A n c) l) : l.length ≤ c := by
  rcases h.parts with ⟨hv, h0⟩ | ⟨g, cap, hv, -, h3, -, -⟩
  · rw [h0]; exact Nat.zero_le _
  · simp only [Value.slice.injEq] at hv; omega
/-- What Learn answers, and leaves. -/
theorem lea_facts {S : Gp} {f : Nat → Int} (h : Inv S f) (a b : Int) :
    ((leaE S a b).2 ≠ 0 ∧ (leaE S a b).1 = 0 ∧ logOf (leaS S a b) a = logOf S a) ∨
      ((leaE S a b).2 = 0 ∧ (((logOf S a).length < (logOf S b).length ∧ (leaE S a b).1 = ((logOf S b).length : Int) - ((logOf S a).length : Int) ∧ logOf (leaS S a b) a = logOf S b ∧ (logOf S b).take (logOf S a).length = logOf S a) ∨
        (¬ (logOf S a).length < (logOf S b).length ∧ (leaE S a b).1 = 0 ∧ logOf (leaS S a b) a = logOf S a ∧ (logOf S a).take (logOf S b).length = logOf S b))) := by
  by_cases hh : S.has a = false ∨ S.has b = false
  · left
    have he : leaE S a b = (0, 3) := by unfold leaE; rw [if_pos hh]
    have hs : leaS S a b = S := by unfold leaS; rw [he, if_neg (fun h => by cases h.1)]
    rw [he, hs]
    exact ⟨by decide, rfl, rfl⟩
  · have hh' := hh
    simp only [not_or, Bool.not_eq_false] at hh'
    obtain ⟨ha, hb⟩ := hh'
    by_cases hu : (S.nd a.toNat).up = false ∨ (S.nd b.toNat).up = false
    · left
      have he : leaE S a b = (0, 70) := by unfold leaE; rw [if_neg hh, if_pos hu]
      have hs : leaS S a b = S := by unfold leaS; rw [he, if_neg (fun h => by cases h.1)]
      rw [he, hs]
      exact ⟨by decide, rfl, rfl⟩
    · right
      have he : leaE S a b = ((((S.nd b.toNat).log.length - (S.nd a.toNat).log.length : Nat) : Int), 0) := by unfold leaE; rw [if_neg hh, if_neg hu]
      have la : logOf S a = (S.nd a.toNat).log := by unfold logOf; rw [if_pos ha]
      have lb : logOf S b = (S.nd b.toNat).log := by unfold logOf; rw [if_pos hb]
      obtain ⟨ea, na⟩ := has_nat ha
      obtain ⟨eb, nb⟩ := has_nat hb
      rw [la, lb]
      by_cases hlt : (S.nd a.toNat).log.length < (S.nd b.toNat).log.length
      · have hs : leaS S a b = S.set a.toNat { S.nd a.toNat with log := (S.nd b.toNat).log } := by unfold leaS; rw [he, if_pos ⟨rfl, hlt⟩]
        refine ⟨by rw [he], .inl ⟨hlt, by rw [he]; show (((S.nd b.toNat).log.length - (S.nd a.toNat).log.length : Nat) : Int) = _; omega, ?_, h.prefix_ na nb (by omega)⟩⟩
        rw [hs]
        unfold logOf
        rw [show (S.set a.toNat { S.nd a.toNat with log := (S.nd b.toNat).log }).has a = true from ha, if_pos rfl, set_nd, if_pos rfl]
      · have hs : leaS S a b = S := by unfold leaS; rw [he, if_neg (fun h => hlt h.2)]
        refine ⟨by rw [he], .inr ⟨hlt, by rw [he]; show (((S.nd b.toNat).log.length - (S.nd a.toNat).log.length : Nat) : Int) = _; omega, ?_, h.prefix_ nb na (by omega)⟩⟩
        rw [hs, la]
end Go.Proofs.YtkcbmkedhipgeaaGreatDoor

namespace Go.Proofs.YtkcbmkedhipgeaaGreatDoor
open Go.RowKit Go.ChangeMaps

/-- Nodes 0 to i - 1 are set. -/
def setsF (S : Gp) (f : Nat → Bool) : Nat → Gp
  | 0 => S
  | i + 1 => setS (setsF S f i) i (f i)
theorem setsF_n (S : Gp) (f : Nat → Bool) : ∀ i, (setsF S f i).n = S.n
  | 0 => rfl
  | i + 1 => (set_n _ _).trans (setsF_n S f i)
theorem setS_nd {S : Gp} {i : Nat} (hi : i < S.n) (u : Bool) (j : Nat) : (setS S i u).nd j = if j = i then { S.nd i with up := u } else S.nd j := by
  unfold setS
  rw [show S.has (i : Int) = true from has_iff.2 ⟨by omega, by omega⟩, if_neg (by decide), set_nd, show ((i : Int)).toNat = i by omega]
theorem setE_nat {S : Gp} {i : Nat} (hi : i < S.n) : setE S i = 0 := by
  unfold setE
  rw [show S.has (i : Int) = true from has_iff.2 ⟨by omega, by omega⟩, if_neg (by decide)]
theorem setsF_up {S : Gp} {f : Nat → Bool} : ∀ i, i ≤ S.n → ∀ j, j < i → ((setsF S f i).nd j).up = f j
  | 0, _, j, hj => absurd hj (Nat.not_lt_zero _)
  | i + 1, hi, j, hj => by
    show ((setS (setsF S f i) i (f i)).nd j).up = f j
    rw [setS_nd (by rw [setsF_n]; omega)]
    split
    · rename_i e; rw [e]
    · exact setsF_up i (by omega) j (by omega)
theorem setS_log (S : Gp) (i : Int) (u : Bool) (j : Nat) : ((setS S i u).nd j).log = (S.nd j).log := by
  unfold setS
  split
  · rfl
  · rw [set_nd]
    split
    · rename_i e; rw [e]
    · rfl
theorem setsF_log (S : Gp) (f : Nat → Bool) (j : Nat) : ∀ i, ((setsF S f i).nd j).log = (S.nd j).log
  | 0 => rfl
  | i + 1 => (setS_log _ _ _ _).trans (setsF_log S f j i)
theorem LV.setsF {S : Gp} {m : Nat} (h : LV S m) (f : Nat → Bool) : ∀ i, LV (Go.Proofs.YtkcbmkedhipgeaaGreatDoor.setsF S f i) m
  | 0 => h
  | i + 1 => (LV.setsF h f i).sets _ _
theorem logOf_at {S : Gp} {k : Nat} (hk : k < S.n) : logOf S k = (S.nd k).log := by
  unfold logOf
  rw [if_pos (has_iff.2 ⟨by omega, by omega⟩), show ((k : Int)).toNat = k by omega]
theorem cntP_all {n : Nat} {p : Nat → Bool} (h : ∀ j, j < n → p j = true) : cntP n p = n := by
  have e : cntP n p = cntP n fun _ => true := cntP_eq h
  rw [e]
  unfold cntP
  rw [List.countP_eq_length.2 (fun _ _ => rfl), List.length_range]
/-- Propose keeps who is up, and its own log at least. -/
theorem pro_up (S : Gp) (i : Int) (x : ByteArray) (L : Nat) (j : Nat) : ((proS S i x L).nd j).up = (S.nd j).up := by
  by_cases hE : refE S i x = 0
  · obtain ⟨hi, hd, -⟩ := pro_ways hE L
    exact hd.up j
  · rw [(pro_no hE L).2]
theorem pro_log (S : Gp) (k : Nat) (x : ByteArray) (L : Nat) (j : Nat) : (S.nd j).log.length ≤ ((proS S k x L).nd j).log.length ∧ (j ≠ k → ((proS S k x L).nd j).log = (S.nd j).log) := by
  by_cases hE : refE S k x = 0
  · obtain ⟨hi, hd, -⟩ := pro_ways hE L
    rw [show ((k : Int)).toNat = k by omega] at hd
    refine ⟨?_, hd.log j⟩
    by_cases e : j = k
    · subst e
      rcases hd.logk with e | ⟨y, e⟩
      · rw [e]; exact Nat.le_refl _
      · rw [e, List.length_append]; omega
    · rw [hd.log j e]; exact Nat.le_refl _
  · rw [(pro_no hE L).2]; exact ⟨Nat.le_refl _, fun _ => rfl⟩
/-- Of two proposals with a majority up and nothing lost the second is chosen. -/
theorem two_yes {S : Gp} {m : Nat} (h : LV S m) (hm : m ≤ 1000) {k : Nat} (hk : k < S.n) (hu : (S.nd k).up = true) {x : ByteArray} (hx : x.size ≤ 1024) (hM : S.n < 2 * cntP S.n fun j => (S.nd j).up) :
    (proE (proS S k x 0) k x 0).2.2 = 0 ∧ (S.nd k).log.length + 1 ≤ ((proS (proS S k x 0) k x 0).nd k).log.length := by
  have h' := h.pro k x 0
  have hn := pro_n h k x 0
  obtain ⟨h1, y, h2⟩ := pro_yes h' (by omega) (by rw [hn]; exact hk) (by rw [pro_up]; exact hu) hx (clr_pro h (by omega) hk hu hx) (by
    rw [hn, cntP_eq (q := fun j => (S.nd j).up) (fun j _ => pro_up S k x 0 j)]; exact hM)
  refine ⟨h1, ?_⟩
  rw [h2, List.length_append, List.length_singleton]
  have := (pro_log S k x 0 k).1
  omega
theorem lea_up (S : Gp) (i j : Int) (q : Nat) : ((leaS S i j).nd q).up = (S.nd q).up := by
  unfold leaS
  split
  · rw [set_nd]
    split
    · rename_i e; rw [e]
    · rfl
  · rfl
/-- Who learns of another that is up knows as much. -/
theorem lea_yes {S : Gp} {a b : Nat} (ha : a < S.n) (hb : b < S.n) (ua : (S.nd a).up = true) (ub : (S.nd b).up = true) : (leaE S a b).2 = 0 ∧ (logOf (leaS S a b) b).length ≤ (logOf (leaS S a b) a).length := by
  have hha : S.has (a : Int) = true := has_iff.2 ⟨by omega, by omega⟩
  have hhb : S.has (b : Int) = true := has_iff.2 ⟨by omega, by omega⟩
  have ta : ((a : Int)).toNat = a := by omega
  have tb : ((b : Int)).toNat = b := by omega
  have he : leaE S a b = ((((S.nd b).log.length - (S.nd a).log.length : Nat) : Int), 0) := by
    unfold leaE
    rw [if_neg (by rw [hha, hhb]; decide), ta, tb, if_neg (by rw [ua, ub]; decide)]
  refine ⟨by rw [he], ?_⟩
  unfold leaS
  rw [he, ta, tb]
  by_cases hlt : (S.nd a).log.length < (S.nd b).log.length
  · rw [if_pos ⟨rfl, hlt⟩, logOf_at (show a < (S.set a { S.nd a with log := (S.nd b).log }).n from ha), logOf_at (show b < (S.set a { S.nd a with log := (S.nd b).log }).n from hb), set_nd, set_nd, if_pos rfl]
    split
    · exact Nat.le_refl _
    · exact Nat.le_refl _
  · rw [if_neg (fun h => hlt h.2), logOf_at ha, logOf_at hb]; omega
/-- Who is down proposes nothing, and learns nothing. -/
theorem down_no {S : Gp} {k : Nat} (hk : k < S.n) (hd : (S.nd k).up = false) (x : ByteArray) (L : Nat) (j : Nat) (hj : j < S.n) : proE S k x L = (0, ⟨#[]⟩, 70) ∧ proS S k x L = S ∧ leaE S k j = (0, 70) ∧ leaS S k j = S := by
  have hha : S.has (k : Int) = true := has_iff.2 ⟨by omega, by omega⟩
  have hhb : S.has (j : Int) = true := has_iff.2 ⟨by omega, by omega⟩
  have tk : ((k : Int)).toNat = k := by omega
  have hE : refE S k x = 70 := by
    unfold refE
    rw [hha, if_neg (by decide), tk, hd, if_pos rfl]
  obtain ⟨p1, p2⟩ := pro_no (x := x) (i := k) (by rw [hE]; decide) L
  have he : leaE S k j = (0, 70) := by
    unfold leaE
    rw [if_neg (by rw [hha, hhb]; decide), tk, hd, if_pos (.inl rfl)]
  refine ⟨by rw [p1, hE], p2, he, ?_⟩
  unfold leaS
  rw [he, if_neg (fun h => by cases h.1)]
def fewF (k j : Nat) : Bool := decide ((((j : Nat) : Int) + 5 - ((k : Nat) : Int)) % 5 ≤ 1)
theorem few_cnt : ∀ k, k < 5 → (cntP 5 fun j => fewF k j) ≤ 2 := by decide
theorem few_self (k : Nat) : fewF k k = true := by
  unfold fewF
  rw [show ((k : Nat) : Int) + 5 - ((k : Nat) : Int) = 5 by omega]
  decide
theorem three_cnt : ∀ k, k < 3 → (cntP 3 fun j => decide (j ≠ k)) = 2 := by decide
theorem bb_pro0 {w0 w : World} {g r : Nat} {S T : Gp} {P : Pl} {Q : Ql} (h : BB w0 w g r S T P Q) {m : Nat} (hL : LV S m) (i : Int) (x : ByteArray) :
    Calls Tryz.prog 21 #[.pointer (some ⟨g, 0, none⟩), .int .i64 i, .string x, .int .u64 0] w fun e w' => ∃ P', e = .returned (.tuple #[.int .i64 (proE S i x 0).1, .string (proE S i x 0).2.1, .int .i64 (proE S i x 0).2.2]) ∧ BB w0 w' g r (proS S i x 0) T P' Q ∧ BX S.n P P' Q Q w w' := bb_pro h hL i x 0 (by omega)
end Go.Proofs.YtkcbmkedhipgeaaGreatDoor

namespace Go.Proofs.YtkcbmkedhipgeaaGreatDoor
open Go.RowKit Go.ChangeMaps

/-- A row that is neither group's. -/
def Own2 (n : Nat) (P : Pl) (Q : Ql) (v : Value) : Prop := ∀ k, v.ownBlock = some k → ¬ P.F n k ∧ ∀ i, i < n → (Q.lr i).ownBlock ≠ some k
theorem BX.texts2 {n : Nat} {P P' : Pl} {Q Q' : Ql} {w w' : World} (h : BX n P P' Q Q' w w') {base : Nat} {v : Value} {l : List ByteArray} (ho : OwnsS w base v l) (hF : Own2 n P Q v) : OwnsS w' base v l ∧ Own2 n P' Q' v := by
  obtain ⟨h1, h2⟩ := h.texts ho (fun k hk => (hF k hk).1)
  refine ⟨h1, fun k hk => ⟨h2 k hk, fun i hi e => ?_⟩⟩
  rcases h.newQ i hi k e with ⟨j, hj, e⟩ | e
  · exact (hF k hk).2 j hj e
  · have := (ho.lt hk).2; omega
/-- Texts of one's own are grown. -/
theorem BB.grown {w0 w w' : World} {g r : Nat} {S T : Gp} {P : Pl} {Q : Ql} (h : BB w0 w g r S T P Q) {v : Value} {l : List ByteArray} (hg : w.grownBy w' v.ownBlock) (ho : OwnsS w w0.heap.size v l) (hF : Own2 S.n P Q v) : BB w0 w' g r S T P Q := by
  refine ⟨h.pg.keep fun k o hk hm => ?_, h.rg.keep fun k o hk hm => ?_, h.n, h.ap, h.bP, h.bQ, below_grown h.un hg h.un.size fun k hk => (ho.lt hk).1⟩
  · refine (hg.block k (lt_of hk) (fun e => ?_)).trans hk
    obtain ⟨cur, h3⟩ := ho.ty e.symm
    rw [hk] at h3
    injection h3 with h3
    rw [h3] at hm
    rcases hm with hm | hm | hm
    · simp only [isTy, List.mem_cons, List.not_mem_nil, or_false] at hm
      exact absurd hm (by decide)
    · exact hm
    · exact (hF k e.symm).1 hm
  · refine (hg.block k (lt_of hk) (fun e => ?_)).trans hk
    obtain ⟨cur, h3⟩ := ho.ty e.symm
    rw [hk] at h3
    injection h3 with h3
    rw [h3] at hm
    rcases hm with hm | ⟨i, hi, hm⟩
    · simp only [isTy, List.mem_cons, List.not_mem_nil, or_false] at hm
      exact absurd hm (by decide)
    · exact (hF k e.symm).2 i (by rw [h.n]; exact hi) hm
/-- What was chosen, noted in a row of one's own. -/
structure CH (w0 w : World) (S : Gp) (P : Pl) (Q : Ql) (v : Value) (ch : List ByteArray) (m : Nat) : Prop where
  row : OwnsS w w0.heap.size v ch
  own : Own2 S.n P Q v
  cho : ∀ (k : Nat) x, ch[k]? = some x → choOf S k = (x, true)
  len : ch.length ≤ m
theorem CH.below {w0 w w' : World} {S : Gp} {P : Pl} {Q : Ql} {v : Value} {ch : List ByteArray} {m : Nat} (h : CH w0 w S P Q v ch m) (hb : Below w.heap.size w w') : CH w0 w' S P Q v ch m := ⟨OwnsS.below hb h.row, h.own, h.cho, h.len⟩
theorem CH.does {w0 w w' : World} {S : Gp} {P P' : Pl} {Q Q' : Ql} {v : Value} {ch : List ByteArray} {m k : Nat} (h : CH w0 w S P Q v ch m) (hL : LV S k) (o : Stp) (hx : BX S.n P P' Q Q' w w') : CH w0 w' (doS S o) P' Q' v ch (m + 1) := by
  obtain ⟨h1, h2⟩ := hx.texts2 h.row h.own
  exact ⟨h1, by rw [do_n hL o]; exact h2, fun q x hq => cho_stays hL.inv (hL.does o).inv (do_n hL o) (do_all o) (h.cho q x hq), by have := h.len; omega⟩
theorem CH.push {w0 w w1 w' : World} {g r : Nat} {S T : Gp} {P : Pl} {Q : Ql} {v v' vl : Value} {ch l : List ByteArray} {x : ByteArray} {m b2 : Nat} (hb : BB w0 w g r S T P Q) (hc : CH w0 w S P Q v ch m) (hl : OwnsS w b2 vl l) (hne : ∀ b, v.ownBlock = some b → vl.ownBlock ≠ some b)
    (h1 : Below w.heap.size w w1) (hg : w1.grownBy w' v.ownBlock) (ho : OwnsS w' w0.heap.size v' (ch ++ [x])) (ht : ∀ b, v'.ownBlock = some b → v.ownBlock = some b ∨ w1.heap.size ≤ b) (hx : choOf S ch.length = (x, true)) (hm : ch.length + 1 ≤ m) :
    BB w0 w' g r S T P Q ∧ CH w0 w' S P Q v' (ch ++ [x]) m ∧ OwnsS w' b2 vl l ∧ ∀ b, v'.ownBlock = some b → vl.ownBlock ≠ some b := by
  have hb1 := (hb.below h1).1
  have hc1 := hc.below h1
  have hl1 := OwnsS.below h1 hl
  refine ⟨hb1.grown hg hc1.row hc1.own, ⟨ho, fun b hb' => ?_, fun k y hk => ?_, by rw [List.length_append, List.length_singleton]; exact hm⟩, hl1.kept fun b hb' => hg.block b (hl1.lt hb').2 (fun e => hne b e.symm hb'), fun b hb' e => ?_⟩
  · rcases ht b hb' with e | e
    · exact hc.own b e
    · refine ⟨fun hF => ?_, fun i hi e' => ?_⟩
      · have := hb1.pg.F_lt hF; omega
      · have := hb1.lrLt hi e'; omega
  · rw [List.getElem?_append] at hk
    split at hk
    · exact hc.cho k y hk
    · rename_i hlt
      have e0 : k - ch.length = 0 := by
        by_cases e : k - ch.length = 0
        · exact e
        · rw [List.getElem?_eq_none (by rw [List.length_singleton]; omega)] at hk; cases hk
      rw [e0] at hk
      simp only [List.getElem?_cons_zero, Option.some.injEq] at hk
      rw [show k = ch.length by omega, hx, hk]
  · rcases ht b hb' with e' | e'
    · exact hne b e' e
    · have := (hl1.lt e).2; omega
/-- What stands at i. -/
theorem OwnsS.at {w : World} {base : Nat} {A : Option Addr} {n c : Nat} {l : List ByteArray} (h : OwnsS w base (.slice A n c) l) {i : Nat} {x : ByteArray} (hi : l[i]? = some x) : ∃ g, A = some ⟨g, 0, none⟩ ∧ g < w.heap.size ∧ w.cell? ⟨g, i, none⟩ = some (.string x) := by
  obtain ⟨A', c', hv, -, hg⟩ := h.form
  simp only [Value.slice.injEq] at hv
  obtain ⟨rfl, -, -⟩ := hv
  exact hg i x hi
def lenOf : Value → Nat
  | .slice _ n _ => n
  | _ => 0
end Go.Proofs.YtkcbmkedhipgeaaGreatDoor
