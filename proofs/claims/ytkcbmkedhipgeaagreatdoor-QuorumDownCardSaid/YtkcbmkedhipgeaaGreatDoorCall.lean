/-
  What always holds of a group is kept by each call: in no slot two values are chosen, whatever is lost.

  What always holds of a group is kept by each of its calls; rounds rise; where a majority is up, and nothing is lost, it goes on.
-/
import Derived.Test.YtkcbmkedhipgeaaGreatDoorRg
namespace Go.Proofs.YtkcbmkedhipgeaaGreatDoor
open Go.RowKit

theorem cntP_more {n m : Nat} (h : n ≤ m) (p : Nat → Bool) : cntP n p ≤ cntP m p := by
  obtain ⟨d, rfl⟩ := Nat.le.dest h
  induction d with
  | zero => exact Nat.le_refl _
  | succ d ih => rw [← Nat.add_assoc, cntP_succ]; have := ih (by omega); omega
theorem prep_l (A : Acc) (b : Int) : (A.prep b).l = A.l := by unfold Acc.prep; split <;> rfl
theorem prep_up (A : Acc) (b : Int) : A.p ≤ (A.prep b).p := by
  unfold Acc.prep
  split
  · rename_i h; exact (prepE_zero.1 h).2
  · exact Int.le_refl _
theorem accept_up (A : Acc) (v : V) : A.p ≤ (A.accept v).p := by
  unfold Acc.accept
  split
  · rename_i h; exact (accE_zero.1 h).2
  · exact Int.le_refl _
/-- What else turns than who voted for what: logs that are chosen, rounds, promises. -/
theorem Inv.turn {S S' : Gp} {f f' : Nat → Int} (h : Inv S f) (hn : S'.n = S.n) (ha : S'.all = S.all) (ht : S'.tab = S.tab)
    (hA : ∀ j, j < S.n → (S'.nd j).A.Good ∧ (S'.nd j).A.l = (S.nd j).A.l ∧ (S.nd j).A.p ≤ (S'.nd j).A.p)
    (hl : ∀ k, k < S.n → ∀ (j : Nat) x, (S'.nd k).log[j]? = some x → ∃ v, Maj S.n S.all v ∧ v.s = (j : Int) ∧ v.x = x) (hf : ∀ k, k < S.n → f k ≤ f' k) : Inv S' f' := by
  exact {
    n0 := by rw [hn]; exact h.n0
    n5 := by rw [hn]; exact h.n5
    good := fun i hi => (hA i (by rw [← hn]; exact hi)).1
    g1 := fun i v hv => by
      rw [ha] at hv
      obtain ⟨h1, u, h2, h3⟩ := h.g1 i v hv
      exact ⟨by rw [hn]; exact h1, u, by rw [(hA i h1).2.1]; exact h2, h3⟩
    g2 := fun i hi s u hu => by
      rw [hn] at hi
      rw [ha]
      rw [(hA i hi).2.1] at hu
      exact h.g2 i hi s u hu
    g4 := by rw [hn, ha]; exact h.g4
    g5 := fun i v hv => by
      rw [ha] at hv
      obtain ⟨h1, h2, h3⟩ := h.g5 i v hv
      exact ⟨h1, by rw [hn]; exact h2, by have := hf (ownN v.b).toNat (by omega); omega⟩
    g6 := fun i v hv => by
      rw [ha] at hv
      rw [hn]
      refine Nat.lt_of_lt_of_le (h.g6 i v hv) (Nat.mul_le_mul_left 2 (cntP_mono fun j hj hp => ?_))
      have h1 := of_decide_eq_true hp
      have h2 := (hA j hj).2.2
      exact decide_eq_true (Int.le_trans h1 h2)
    g7 := fun k hk => by rw [hn] at hk; rw [hn, ha]; exact hl k hk
    t0 := by rw [ht]; exact h.t0
    t1 := by rw [ht, hn, ha]; exact h.t1
    t2 := fun s hs i hi u => by
      rw [ht, hn] at hs
      rw [hn] at hi
      rw [ht, (hA i hi).2.1]
      exact h.t2 s hs i hi u
    t3 := by rw [ht, hn, ha]; exact h.t3 }

/-! ### the first round -/
/-- Does node j hear the first request; is it heard that it promised? -/
def h1 (S : Gp) (L : Nat) (j : Nat) : Bool := (S.nd j).up && !L.testBit (4 * j)
def p1 (S : Gp) (b : Int) (L : Nat) (j : Nat) : Bool := h1 S L j && !L.testBit (4 * j + 1) && decide (prepE (S.nd j).A b = 0)
def nd1 (S : Gp) (b : Int) (L : Nat) (k : Nat) (j : Nat) : Nd := if j < k ∧ h1 S L j = true then (S.nd j).setA ((S.nd j).A.prep b) else S.nd j
theorem nd1_l (S : Gp) (b : Int) (L k j : Nat) : (nd1 S b L k j).A.l = (S.nd j).A.l := by unfold nd1; split; exact prep_l _ _; rfl
theorem nd1_p (S : Gp) (b : Int) (L k j : Nat) : (S.nd j).A.p ≤ (nd1 S b L k j).A.p := by unfold nd1; split; exact prep_up _ _; exact Int.le_refl _
theorem nd1_same (S : Gp) (b : Int) (L k j : Nat) : (nd1 S b L k j).log = (S.nd j).log ∧ (nd1 S b L k j).rd = (S.nd j).rd ∧ (nd1 S b L k j).up = (S.nd j).up := by unfold nd1; split <;> exact ⟨rfl, rfl, rfl⟩
theorem nd1_good {S : Gp} {b : Int} {L k j : Nat} (h : (S.nd j).A.Good) : (nd1 S b L k j).A.Good := by unfold nd1; split; exact h.prep b; exact h
theorem ask1_run (S : Gp) (b sl : Int) (L : Nat) : ∀ k, (goes (ask1 b sl L) ⟨S, [], 0⟩ k).S = { S with nd := nd1 S b L k } ∧
    (goes (ask1 b sl L) ⟨S, [], 0⟩ k).told = (List.range k).filterMap (fun j => if p1 S b L j = true then some (from_ (S.nd j).A.l sl) else none)
  | 0 => by
    refine ⟨?_, rfl⟩
    show S = _
    have : nd1 S b L 0 = S.nd := by funext j; unfold nd1; rw [if_neg (by omega)]
    rw [this]
  | k + 1 => by
    obtain ⟨i1, i2⟩ := ask1_run S b sl L k
    have hnd : nd1 S b L k k = S.nd k := by unfold nd1; rw [if_neg (by omega)]
    have hs : (h1 S L k = true → nd1 S b L (k + 1) = at1 (nd1 S b L k) k ((S.nd k).setA ((S.nd k).A.prep b))) ∧ (h1 S L k = false → nd1 S b L (k + 1) = nd1 S b L k) := by
      constructor
      · intro hh
        funext j
        unfold at1
        by_cases e : j = k
        · subst e
          rw [if_pos rfl]; unfold nd1; rw [if_pos ⟨by omega, hh⟩]
        · rw [if_neg e]; unfold nd1
          by_cases e1 : j < k ∧ h1 S L j = true
          · rw [if_pos e1, if_pos ⟨by omega, e1.2⟩]
          · rw [if_neg e1, if_neg (fun h => e1 ⟨by omega, h.2⟩)]
      · intro hh
        funext j
        unfold nd1
        by_cases e1 : j < k ∧ h1 S L j = true
        · rw [if_pos e1, if_pos ⟨by omega, e1.2⟩]
        · rw [if_neg e1, if_neg (fun h => e1 ⟨?_, h.2⟩)]
          rcases Nat.lt_succ_iff_lt_or_eq.1 h.1 with h' | h'
          · exact h'
          · rw [h', hh] at h; cases h.2
    rw [List.range_succ, List.filterMap_append, List.filterMap_cons, List.filterMap_nil]
    have hg : goes (ask1 b sl L) ⟨S, [], 0⟩ (k + 1) = ask1 b sl L (goes (ask1 b sl L) ⟨S, [], 0⟩ k) k := rfl
    rw [hg]
    generalize goes (ask1 b sl L) ⟨S, [], 0⟩ k = R at i1 i2 ⊢
    obtain ⟨RS, Rt, Rh⟩ := R
    simp only at i1 i2
    subst i1 i2
    unfold ask1
    simp only [hnd]
    by_cases c1 : (S.nd k).up = false ∨ L.testBit (4 * k) = true
    · have hh : h1 S L k = false := by
        unfold h1
        rcases c1 with c | c <;> rw [c] <;> simp
      rw [if_pos c1, hs.2 hh, if_neg (by unfold p1; rw [hh]; simp)]
      exact ⟨rfl, by simp⟩
    · have hh : h1 S L k = true := by
        unfold h1
        simp only [not_or, Bool.not_eq_false, Bool.not_eq_true] at c1
        rw [c1.1, c1.2]; rfl
      rw [if_neg c1, hs.1 hh]
      by_cases c2 : L.testBit (4 * k + 1) = true
      · rw [if_pos c2, if_neg (by unfold p1; rw [c2]; simp)]
        exact ⟨rfl, by simp⟩
      · rw [if_neg c2]
        refine ⟨rfl, ?_⟩
        have e2 : L.testBit (4 * k + 1) = false := by simpa using c2
        by_cases c3 : prepE (S.nd k).A b = 0
        · simp only
          rw [if_pos c3, if_pos (by unfold p1; rw [hh, e2, c3]; rfl)]
          unfold prepL
          rw [if_pos c3]
        · simp only
          rw [if_neg c3, if_neg (by unfold p1; simp [c3])]; simp
theorem rnd1_S (S : Gp) (k L : Nat) : (rnd1 S k L).S = { S with nd := nd1 S (balOf S k) L S.n } := (ask1_run S _ _ L S.n).1
theorem filterMap_len {α : Type} (p : Nat → Bool) (g : Nat → α) : ∀ k, ((List.range k).filterMap (fun j => if p j = true then some (g j) else none)).length = cntP k p
  | 0 => rfl
  | k + 1 => by
    rw [List.range_succ, List.filterMap_append, List.length_append, filterMap_len p g k, cntP_succ]
    cases hp : p k <;> simp [hp]
theorem rnd1_len (S : Gp) (k L : Nat) : (rnd1 S k L).told.length = cntP S.n (p1 S (balOf S k) L) := by
  unfold rnd1
  rw [(ask1_run S _ _ L S.n).2, filterMap_len]
theorem rnd1_told {S : Gp} {k L : Nat} {u : V} (h : u ∈ (rnd1 S k L).told.flatten) : ∃ j, j < S.n ∧ p1 S (balOf S k) L j = true ∧ u ∈ from_ (S.nd j).A.l (slotOf S k) := by
  unfold rnd1 at h
  rw [(ask1_run S _ _ L S.n).2] at h
  obtain ⟨l, h1, h2⟩ := List.mem_flatten.1 h
  obtain ⟨j, h3, h4⟩ := List.mem_filterMap.1 h1
  split at h4
  · rename_i hp
    injection h4 with h4
    exact ⟨j, List.mem_range.1 h3, hp, by rw [h4]; exact h2⟩
  · cases h4
theorem told_rnd1 {S : Gp} {k L : Nat} {u : V} {j : Nat} (hj : j < S.n) (hp : p1 S (balOf S k) L j = true) (hu : u ∈ from_ (S.nd j).A.l (slotOf S k)) : u ∈ (rnd1 S k L).told.flatten := by
  unfold rnd1
  rw [(ask1_run S _ _ L S.n).2]
  exact List.mem_flatten.2 ⟨_, List.mem_filterMap.2 ⟨j, List.mem_range.2 hj, by rw [if_pos hp]⟩, hu⟩
/-- The rounds of the nodes. -/
def rds (S : Gp) (k : Nat) : Int := (S.nd k).rd
/-- Node p is in its round. -/
def rdsP (S : Gp) (p : Nat) (k : Nat) : Int := if k = p then (S.nd p).rd + 1 else (S.nd k).rd
theorem Inv.inRnd {S : Gp} (h : Inv S (rds S)) (k L : Nat) : Inv (rnd1 S k L).S (rdsP S k) := by
  rw [rnd1_S]
  refine h.turn rfl rfl rfl (fun j hj => ⟨nd1_good (h.good j hj), nd1_l _ _ _ _ _, nd1_p _ _ _ _ _⟩) (fun i hi j x hx => ?_) (fun i _ => ?_)
  · have : (nd1 S (balOf S k) L S.n i).log = (S.nd i).log := (nd1_same _ _ _ _ _).1
    simp only [this] at hx
    exact h.g7 i hi j x hx
  · unfold rds rdsP
    split
    · rename_i e; subst e; omega
    · exact Int.le_refl _
/-- What is so once a majority has promised: all ballots are elder; a value that is chosen is asked for. -/
theorem first {S : Gp} (h : Inv S (rds S)) {k L : Nat} (hR : numR (S.nd k).rd k = 0) (hm : S.n < 2 * (rnd1 S k L).told.length) (x : ByteArray) :
    (∀ j u, (j, u) ∈ S.all → u.b < balOf S k) ∧ (∀ u, Maj S.n S.all u → u.s = slotOf S k → u.x = (voteOf S k x L).x) ∧ S.n < 2 * cntP S.n (fun j => decide (balOf S k ≤ (nd1 S (balOf S k) L S.n j).A.p)) := by
  rw [rnd1_len] at hm
  obtain ⟨o1, o2⟩ := own_num hR
  have c1 : ∀ j u, (j, u) ∈ S.all → u.b < balOf S k := fun j u hu => by
    obtain ⟨i, hi, a1, a2⟩ := meet (h.g6 j u hu) hm
    have b1 := of_decide_eq_true a1
    unfold p1 at a2
    simp only [Bool.and_eq_true, decide_eq_true_eq] at a2
    have b2 := (prepE_zero.1 a2.2).2
    have hle : u.b ≤ balOf S k := Int.le_trans b1 b2
    have hne : u.b ≠ balOf S k := fun e => by
      obtain ⟨g1, g2, g3⟩ := h.g5 j u hu
      unfold balOf at e
      rw [e, o1, o2] at g3
      unfold rds at g3
      simp at g3
    omega
  refine ⟨c1, fun u hu hs => ?_, ?_⟩
  · obtain ⟨i, hi, a1, a2⟩ := meet hu hm
    obtain ⟨-, w, w1, w2, -⟩ := h.g1 i u (of_decide_eq_true a1)
    obtain ⟨s1, s2⟩ := lk_slot w1
    have hmem : w ∈ from_ (S.nd i).A.l (slotOf S k) := List.mem_filter.2 ⟨s2, by simp; omega⟩
    obtain ⟨y, y1, y2⟩ := cho_max (told_rnd1 hi a2 hmem) (s1.trans hs)
    obtain ⟨y3, y4⟩ := cho_mem y1
    obtain ⟨j, hj, -, hy⟩ := rnd1_told y3
    have hyl := (List.mem_filter.1 hy).1
    have hyall := h.g2 j hj y.s y (lk_self (h.good j hj).srt hyl)
    have := h.g4 u hu j y hyall (y4.trans hs.symm) (by omega)
    show u.x = valOf _ _ _
    unfold valOf
    rw [y1]; exact this.symm
  · refine Nat.lt_of_lt_of_le hm (Nat.mul_le_mul_left 2 (cntP_mono fun j hj hp => ?_))
    unfold p1 at hp
    simp only [Bool.and_eq_true, decide_eq_true_eq] at hp
    apply decide_eq_true
    unfold nd1
    rw [if_pos ⟨hj, hp.1.1⟩]
    show _ ≤ ((S.nd j).A.prep _).p
    unfold Acc.prep
    rw [if_pos hp.2]
    exact Int.le_refl _

/-! ### the second round -/
/-- What is so of a vote that is asked for. -/
structure Ask (S : Gp) (f : Nat → Int) (v : V) : Prop where
  inv : Inv S f
  c1 : ∀ j u, (j, u) ∈ S.all → u.b < v.b ∨ u = v
  c2 : ∀ u, Maj S.n S.all u → u.s = v.s → u.x = v.x
  c3 : S.n < 2 * cntP S.n (fun j => decide (v.b ≤ (S.nd j).A.p))
  c4 : 0 ≤ ownN v.b ∧ ownN v.b < S.n ∧ ownR v.b < f (ownN v.b).toNat
theorem mem_snoc {α : Type} {l : List α} {x y : α} : y ∈ l ++ [x] ↔ y ∈ l ∨ y = x := by simp
theorem Ask.acc {S : Gp} {f : Nat → Int} {v : V} (h : Ask S f v) {i : Nat} (hi : i < S.n) : Ask (accS S i v) f v := by
  by_cases hE : accE (S.nd i).A v = 0
  · obtain ⟨hw, hp⟩ := accE_zero.1 hE
    obtain ⟨hs0, hs1, -, -⟩ := wrongE_zero.1 hw
    have I := h.inv
    have hi5 : i < 5 := by have := I.n5; omega
    have hG := I.good i hi
    have eA : (S.nd i).A.accept v = ⟨v.b, ins v (S.nd i).A.l⟩ := by unfold Acc.accept; rw [if_pos hE]
    have eS : accS S i v = { S with nd := at1 S.nd i ((S.nd i).setA ((S.nd i).A.accept v)), all := S.all ++ [(i, v)], tab := fun s => if s = v.s then noteR S.n i v (S.tab s) else S.tab s } := by unfold accS; rw [if_pos hE]
    -- the acceptors
    have aI : ((accS S i v).nd i).A = ⟨v.b, ins v (S.nd i).A.l⟩ := by rw [eS]; show (at1 S.nd i ((S.nd i).setA ((S.nd i).A.accept v)) i).A = _; rw [at1_same]; exact eA
    have aJ : ∀ j, j ≠ i → (accS S i v).nd j = S.nd j := fun j hj => by rw [eS]; exact at1_other _ _ hj
    have hn : (accS S i v).n = S.n := by rw [eS]
    have hall : (accS S i v).all = S.all ++ [(i, v)] := by rw [eS]
    have htab : ∀ s, (accS S i v).tab s = if s = v.s then noteR S.n i v (S.tab s) else S.tab s := fun s => by rw [eS]
    have up : ∀ j, (S.nd j).A.p ≤ ((accS S i v).nd j).A.p := fun j => by
      by_cases e : j = i
      · subst e; rw [aI]; exact hp
      · rw [aJ j e]; exact Int.le_refl _
    have sub : ∀ j u, (j, u) ∈ S.all → (j, u) ∈ (accS S i v).all := fun j u hu => by rw [hall]; exact mem_snoc.2 (.inl hu)
    have inn : ∀ j u, (j, u) ∈ (accS S i v).all → (j, u) ∈ S.all ∨ (j = i ∧ u = v) := fun j u hu => by
      rw [hall] at hu
      rcases mem_snoc.1 hu with hu | hu
      · exact .inl hu
      · injection hu with a b; exact .inr ⟨a, b⟩
    have c1' : ∀ j u, (j, u) ∈ (accS S i v).all → u.b < v.b ∨ u = v := fun j u hu => by
      rcases inn j u hu with hu | ⟨-, hu⟩
      · exact h.c1 j u hu
      · exact .inr hu
    -- another vote has no more votes than it had
    have majO : ∀ u, u ≠ v → Maj S.n (accS S i v).all u → Maj S.n S.all u := fun u hne hm => hm.more fun j hj => by
      rcases inn j u hj with hj | ⟨-, hj⟩
      · exact hj
      · exact absurd hj hne
    have lkI : ∀ s, lk ((accS S i v).nd i).A.l s = if v.s = s then some v else lk (S.nd i).A.l s := fun s => by rw [aI]; exact lk_ins hG.srt v s
    have g1' : ∀ j u, (j, u) ∈ (accS S i v).all → j < S.n ∧ ∃ y, lk ((accS S i v).nd j).A.l u.s = some y ∧ u.b ≤ y.b ∧ (u.b = y.b → u = y) := fun j u hu => by
      rcases inn j u hu with hu' | ⟨rfl, rfl⟩
      · obtain ⟨k1, y, k2, k3, k4⟩ := I.g1 j u hu'
        refine ⟨k1, ?_⟩
        by_cases e : j = i
        · subst e
          rw [lkI]
          by_cases es : v.s = u.s
          · rw [if_pos es]
            rcases h.c1 j u hu' with hb | hb
            · exact ⟨v, rfl, by omega, fun e => by omega⟩
            · exact ⟨v, rfl, by rw [hb]; exact Int.le_refl _, fun _ => hb⟩
          · rw [if_neg es]; exact ⟨y, k2, k3, k4⟩
        · rw [aJ j e]; exact ⟨y, k2, k3, k4⟩
      · exact ⟨hi, u, by rw [lkI, if_pos rfl], Int.le_refl _, fun _ => rfl⟩
    have g2' : ∀ j, j < S.n → ∀ s u, lk ((accS S i v).nd j).A.l s = some u → (j, u) ∈ (accS S i v).all := fun j hj s u hu => by
      by_cases e : j = i
      · subst e
        rw [lkI] at hu
        split at hu
        · injection hu with hu; subst hu; rw [hall]; exact mem_snoc.2 (.inr rfl)
        · exact sub j u (I.g2 j hj s u hu)
      · rw [aJ j e] at hu; exact sub j u (I.g2 j hj s u hu)
    have c2' : ∀ u, Maj S.n (accS S i v).all u → u.s = v.s → u.x = v.x := fun u hu hs => by
      by_cases e : u = v
      · rw [e]
      · exact h.c2 u (majO u e hu) hs
    have c3' : S.n < 2 * cntP S.n (fun j => decide (v.b ≤ ((accS S i v).nd j).A.p)) :=
      Nat.lt_of_lt_of_le h.c3 (Nat.mul_le_mul_left 2 (cntP_mono fun j _ hp => decide_eq_true (Int.le_trans (of_decide_eq_true hp) (up j))))
    have inv' : Inv (accS S i v) f := {
      n0 := by rw [hn]; exact I.n0
      n5 := by rw [hn]; exact I.n5
      good := fun j hj => by
        rw [hn] at hj
        by_cases e : j = i
        · subst e; rw [aI, ← eA]; exact hG.accept v
        · rw [aJ j e]; exact I.good j hj
      g1 := by rw [hn]; exact g1'
      g2 := by rw [hn]; exact g2'
      g4 := fun w hw j u hu hs hb => by
        rw [hn] at hw
        by_cases e : w = v
        · subst e
          rcases c1' j u hu with h1 | h1
          · omega
          · rw [h1]
        · have hw' := majO w e hw
          rcases inn j u hu with hu' | ⟨-, rfl⟩
          · exact I.g4 w hw' j u hu' hs hb
          · exact (h.c2 w hw' hs.symm).symm
      g5 := fun j u hu => by
        rw [hn]
        rcases inn j u hu with hu' | ⟨-, rfl⟩
        · exact I.g5 j u hu'
        · exact h.c4
      g6 := fun j u hu => by
        rw [hn]
        rcases inn j u hu with hu' | ⟨-, rfl⟩
        · exact Nat.lt_of_lt_of_le (I.g6 j u hu') (Nat.mul_le_mul_left 2 (cntP_mono fun j _ hp => decide_eq_true (Int.le_trans (of_decide_eq_true hp) (up j))))
        · exact c3'
      g7 := fun k hk j x hx => by
        rw [hn] at hk
        have : ((accS S i v).nd k).log = (S.nd k).log := by
          by_cases e : k = i
          · subst e; rw [eS]; show (at1 S.nd k ((S.nd k).setA ((S.nd k).A.accept v)) k).log = _; rw [at1_same]; rfl
          · rw [aJ k e]
        rw [this] at hx
        obtain ⟨y, y1, y2⟩ := I.g7 k hk j x hx
        exact ⟨y, by rw [hn]; exact y1.more (fun j hj => sub j y hj), y2⟩
      t0 := fun s => by
        rw [htab]
        split
        · exact note_good hi5 v (I.t0 s)
        · exact I.t0 s
      t1 := fun s u m hp => by
        rw [htab] at hp
        rw [hn]
        split at hp
        · rename_i es
          by_cases hb : bigR S.n (S.tab s) = true
          · unfold noteR at hp
            rw [if_pos hb] at hp
            obtain ⟨k1, k2⟩ := I.t1 s u m hp
            exact ⟨k1, fun j hj hh => ⟨(k2 j hj hh).1, sub j u (k2 j hj hh).2⟩⟩
          · have hb' : bigR S.n (S.tab s) = false := by simpa using hb
            have hm0 := ((note_good hi5 v (I.t0 s)).lt _ hp)
            obtain ⟨q, hq5, hq⟩ := has_zero m hm0.1 hm0.2
            have key : ∀ j, j < 5 → hasB m j = true → u.s = s ∧ j < S.n ∧ (j, u) ∈ (accS S i v).all := fun j hj hh => by
              have := (mem_note hi5 (I.t0 s) hb' hj).1 ⟨m, hp, hh⟩
              split at this
              · rename_i e
                rw [this, e]
                exact ⟨es.symm, hi, by rw [hall]; exact mem_snoc.2 (.inr rfl)⟩
              · obtain ⟨m', hm', hh'⟩ := this
                obtain ⟨k1, k2⟩ := I.t1 s u m' hm'
                exact ⟨k1, (k2 j hj hh').1, sub j u (k2 j hj hh').2⟩
            exact ⟨(key q hq5 hq).1, fun j hj hh => (key j hj hh).2⟩
        · obtain ⟨k1, k2⟩ := I.t1 s u m hp
          exact ⟨k1, fun j hj hh => ⟨(k2 j hj hh).1, sub j u (k2 j hj hh).2⟩⟩
      t2 := fun s hb j hj u => by
        rw [hn] at hb hj
        rw [htab] at hb ⊢
        by_cases es : s = v.s
        · rw [if_pos es] at hb ⊢
          have hb' : bigR S.n (S.tab s) = false := by
            cases hh : bigR S.n (S.tab s) with
            | false => rfl
            | true => unfold noteR at hb; rw [if_pos hh, hh] at hb; cases hb
          rw [mem_note hi5 (I.t0 s) hb' (by have := I.n5; omega)]
          by_cases e : j = i
          · rw [if_pos e, e, lkI, if_pos es.symm]
            constructor
            · intro h; rw [h]
            · intro h; injection h with h; exact h.symm
          · rw [if_neg e, aJ j e]; exact I.t2 s hb' j hj u
        · rw [if_neg es] at hb ⊢
          by_cases e : j = i
          · rw [e, lkI, if_neg (fun h => es h.symm)]; exact I.t2 s hb i hi u
          · rw [aJ j e]; exact I.t2 s hb j hj u
      t3 := fun w hw => by
        rw [hn] at hw ⊢
        rw [htab]
        by_cases es : w.s = v.s
        · rw [if_pos es]
          by_cases hb : bigR S.n (S.tab w.s) = true
          · unfold noteR; rw [if_pos hb]; exact hb
          · have hb' : bigR S.n (S.tab w.s) = false := by simpa using hb
            by_cases e : w = v
            · subst e
              -- all that voted for it stand at it
              have hst : ∀ j, j < S.n → (j, w) ∈ (accS S i w).all → ∃ m, (w, m) ∈ noteR S.n i w (S.tab w.s) ∧ hasB m j = true := fun j hj hjw => by
                rw [mem_note hi5 (I.t0 w.s) hb' (by have := I.n5; omega)]
                by_cases e : j = i
                · rw [if_pos e]
                · rw [if_neg e, I.t2 w.s hb' j hj w]
                  obtain ⟨-, y, k2, k3, k4⟩ := g1' j w hjw
                  have hy := g2' j hj w.s y k2
                  rcases c1' j y hy with h1 | h1
                  · omega
                  · rw [aJ j e, h1] at k2; exact k2
              obtain ⟨j0, hj0, hv0⟩ := hw.some
              obtain ⟨m, hm, -⟩ := hst j0 hj0 hv0
              refine bigR_iff.2 ⟨w, m, hm, Nat.lt_of_lt_of_le hw (Nat.mul_le_mul_left 2 ?_)⟩
              have hG' := note_good hi5 w (n := S.n) (I.t0 w.s)
              have h5 : cntP S.n (hasB m) ≤ cntB m := by
                exact cntP_more I.n5 _
              refine Nat.le_trans (cntP_mono fun j hj hvj => ?_) h5
              obtain ⟨m', hm', hh⟩ := hst j hj (of_decide_eq_true hvj)
              have := (pair_eq hG'.apart hm hm').1 rfl
              injection this with _ em
              rw [em]; exact hh
            · exact absurd (I.t3 w (majO w e hw)) hb
        · rw [if_neg es]; exact I.t3 w (majO w (fun e => es (by rw [e])) hw) }
    exact ⟨inv', c1', by rw [hn]; exact c2', by rw [hn]; exact c3', by rw [hn]; exact h.c4⟩
  · have : accS S i v = S := by unfold accS; rw [if_neg hE]
    rw [this]; exact h
end Go.Proofs.YtkcbmkedhipgeaaGreatDoor

namespace Go.Proofs.YtkcbmkedhipgeaaGreatDoor
open Go.RowKit

theorem ownR_mono {a b : Int} (h : a ≤ b) (hb : b ≤ 1099511627776) (h0 : 0 ≤ b) : ownR a ≤ ownR b := by
  unfold ownR
  by_cases ha : isB a
  · have hB : isB b := ⟨by have := ha.1; omega, hb⟩
    rw [if_pos ha, if_pos hB]
    omega
  · rw [if_neg ha]
    by_cases hB : isB b
    · rw [if_pos hB]; have := hB.1; omega
    · rw [if_neg hB]; exact Int.le_refl _

/-! ### the second round -/
/-- What is so while nodes are asked to accept. -/
structure Sec (S : Gp) (f : Nat → Int) (v : V) (k : Nat) (R : Rnd) : Prop where
  ask : Ask R.S f v
  n : R.S.n = S.n
  same : ∀ j, (R.S.nd j).log = (S.nd j).log ∧ (R.S.nd j).up = (S.nd j).up ∧ (R.S.nd j).rd = (S.nd j).rd
  told : R.told.length ≤ cntP k (votB R.S.all v)
  hi0 : 0 ≤ R.hi
  hi1 : R.hi ≤ 1099511627776
theorem accS_n (S : Gp) (i : Nat) (v : V) : (accS S i v).n = S.n := by unfold accS; split <;> rfl
theorem accS_same (S : Gp) (i : Nat) (v : V) (j : Nat) : ((accS S i v).nd j).log = (S.nd j).log ∧ ((accS S i v).nd j).up = (S.nd j).up ∧ ((accS S i v).nd j).rd = (S.nd j).rd := by
  unfold accS
  split
  · show (at1 S.nd i ((S.nd i).setA _) j).log = _ ∧ (at1 S.nd i ((S.nd i).setA _) j).up = _ ∧ (at1 S.nd i ((S.nd i).setA _) j).rd = _
    by_cases e : j = i
    · subst e; rw [at1_same]; exact ⟨rfl, rfl, rfl⟩
    · rw [at1_other _ _ e]; exact ⟨rfl, rfl, rfl⟩
  · exact ⟨rfl, rfl, rfl⟩
theorem accS_A (S : Gp) (i : Nat) (v : V) : ((accS S i v).nd i).A = (S.nd i).A.accept v := by
  unfold accS
  split
  · show (at1 S.nd i ((S.nd i).setA _) i).A = _
    rw [at1_same]; rfl
  · rename_i h
    unfold Acc.accept
    rw [if_neg h]
theorem accS_other (S : Gp) (i : Nat) (v : V) {j : Nat} (h : j ≠ i) : (accS S i v).nd j = S.nd j := by
  unfold accS
  split
  · exact at1_other _ _ h
  · rfl
theorem accS_all {S : Gp} {i : Nat} {v : V} : ∀ j u, (j, u) ∈ S.all → (j, u) ∈ (accS S i v).all := fun j u h => by
  unfold accS
  split
  · exact mem_snoc.2 (.inl h)
  · exact h
theorem accS_got {S : Gp} {i : Nat} {v : V} (h : accE (S.nd i).A v = 0) : (i, v) ∈ (accS S i v).all := by
  unfold accS
  rw [if_pos h]
  exact mem_snoc.2 (.inr rfl)
theorem Sec.step {S : Gp} {f : Nat → Int} {v : V} {k : Nat} {R : Rnd} (h : Sec S f v k R) (hk : k < S.n) (L : Nat) : Sec S f v (k + 1) (ask2 v L R k) := by
  obtain ⟨RS, Rt, Rh⟩ := R
  have hn : RS.n = S.n := h.n
  have more : cntP k (votB RS.all v) ≤ cntP k (votB (accS RS k v).all v) := cntP_mono fun j _ hp => decide_eq_true (accS_all j v (of_decide_eq_true hp))
  have h1 : Rt.length ≤ cntP k (votB RS.all v) := h.told
  have less : cntP k (votB (accS RS k v).all v) ≤ cntP (k + 1) (votB (accS RS k v).all v) := cntP_more (by omega) _
  have less0 : cntP k (votB RS.all v) ≤ cntP (k + 1) (votB RS.all v) := cntP_more (by omega) _
  have ha := h.ask.acc (i := k) (by rw [hn]; exact hk)
  have same : ∀ j, ((accS RS k v).nd j).log = (S.nd j).log ∧ ((accS RS k v).nd j).up = (S.nd j).up ∧ ((accS RS k v).nd j).rd = (S.nd j).rd := fun j => by
    obtain ⟨a1, a2, a3⟩ := accS_same RS k v j
    obtain ⟨b1, b2, b3⟩ := h.same j
    exact ⟨a1.trans b1, a2.trans b2, a3.trans b3⟩
  unfold ask2
  simp only
  split
  · exact ⟨h.ask, h.n, h.same, Nat.le_trans h1 less0, h.hi0, h.hi1⟩
  · split
    · exact ⟨ha, (accS_n _ _ _).trans hn, same, Nat.le_trans h1 (Nat.le_trans more less), h.hi0, h.hi1⟩
    · have hG : ((RS.nd k).A.accept v).Good := by
        have := ha.inv.good k (by rw [accS_n]; show k < RS.n; omega)
        rw [accS_A] at this
        exact this
      have g0 : 0 ≤ ((RS.nd k).A.accept v).p := hG.p0
      have g1 : ((RS.nd k).A.accept v).p ≤ 1099511627776 := hG.p1
      have r0 : 0 ≤ Rh := h.hi0
      have r1 : Rh ≤ 1099511627776 := h.hi1
      refine ⟨ha, (accS_n _ _ _).trans hn, same, ?_, by show 0 ≤ max Rh ((RS.nd k).A.accept v).p; omega, by show max Rh ((RS.nd k).A.accept v).p ≤ 1099511627776; omega⟩
      show (if accE (RS.nd k).A v = 0 then Rt ++ [[]] else Rt).length ≤ cntP (k + 1) (votB (accS RS k v).all v)
      split
      · rename_i he
        rw [List.length_append, cntP_succ, if_pos (show votB (accS RS k v).all v k = true from decide_eq_true (accS_got he))]
        show Rt.length + 1 ≤ cntP k (votB (accS RS k v).all v) + 1
        omega
      · exact Nat.le_trans h1 (Nat.le_trans more less)
theorem Sec.goes {S S1 : Gp} {f : Nat → Int} {v : V} (ha : Ask S1 f v) (hn : S1.n = S.n) (hs : ∀ j, (S1.nd j).log = (S.nd j).log ∧ (S1.nd j).up = (S.nd j).up ∧ (S1.nd j).rd = (S.nd j).rd) (L : Nat) :
    ∀ k, k ≤ S.n → Sec S f v k (Go.Proofs.YtkcbmkedhipgeaaGreatDoor.goes (ask2 v L) ⟨S1, [], 0⟩ k)
  | 0, _ => ⟨ha, hn, hs, Nat.zero_le _, Int.le_refl _, by show (0 : Int) ≤ _; decide⟩
  | k + 1, hk => (Sec.goes ha hn hs L k (by omega)).step (by omega) L
/-- The highest promise that is heard in the first round is one. -/
theorem rnd1_hi {S : Gp} (h : ∀ j, j < S.n → (S.nd j).A.Good) (b sl : Int) (L : Nat) : ∀ k, k ≤ S.n → 0 ≤ (goes (ask1 b sl L) ⟨S, [], 0⟩ k).hi ∧ (goes (ask1 b sl L) ⟨S, [], 0⟩ k).hi ≤ 1099511627776
  | 0, _ => ⟨Int.le_refl _, by show (0 : Int) ≤ _; decide⟩
  | k + 1, hk => by
    obtain ⟨i1, i2⟩ := rnd1_hi h b sl L k (by omega)
    have hS := (ask1_run S b sl L k).1
    have hg : goes (ask1 b sl L) ⟨S, [], 0⟩ (k + 1) = ask1 b sl L (goes (ask1 b sl L) ⟨S, [], 0⟩ k) k := rfl
    rw [hg]
    generalize goes (ask1 b sl L) ⟨S, [], 0⟩ k = R at i1 i2 hS ⊢
    obtain ⟨RS, Rt, Rh⟩ := R
    simp only at i1 i2 hS
    subst hS
    have hG : ((nd1 S b L k k).A.prep b).Good := (nd1_good (h k (by omega))).prep b
    have g0 := hG.p0
    have g1 := hG.p1
    unfold ask1
    simp only
    split
    · exact ⟨i1, i2⟩
    · split
      · exact ⟨i1, i2⟩
      · exact ⟨by show 0 ≤ max Rh ((nd1 S b L k k).A.prep b).p; omega, by show max Rh ((nd1 S b L k k).A.prep b).p ≤ 1099511627776; omega⟩
theorem refE_zero {S : Gp} {i : Int} {x : ByteArray} (h : refE S i x = 0) : 0 ≤ i ∧ i.toNat < S.n ∧ ((i.toNat : Nat) : Int) = i ∧ (S.nd i.toNat).up = true ∧ x.size ≤ 1024 ∧ (S.nd i.toNat).log.length < 4096 ∧ numR (S.nd i.toNat).rd (i.toNat : Nat) = 0 := by
  unfold refE at h
  split at h
  · cases h
  · rename_i h1
    split at h
    · cases h
    · rename_i h2
      split at h
      · cases h
      · split at h
        · cases h
        · unfold Gp.has at h1
          simp only [Bool.not_eq_false, decide_eq_true_eq] at h1
          have e : ((i.toNat : Nat) : Int) = i := by omega
          refine ⟨h1.1, by omega, e, by simpa using h2, by omega, by omega, by rw [e]; exact h⟩
/-- The vote that is asked for, in the world behind the first round. -/
theorem first_ask {S : Gp} (h : Inv S (rds S)) {k L : Nat} (hk : k < S.n) (hR : numR (S.nd k).rd k = 0) (hm : S.n < 2 * (rnd1 S k L).told.length) (x : ByteArray) : Ask (rnd1 S k L).S (rdsP S k) (voteOf S k x L) := by
  obtain ⟨f1, f2, f3⟩ := first h hR hm x
  obtain ⟨o1, o2⟩ := own_num hR
  have hI := h.inRnd k L
  rw [rnd1_S] at hI ⊢
  refine ⟨hI, fun j u hu => .inl (f1 j u hu), f2, f3, ?_⟩
  show 0 ≤ ownN (balOf S k) ∧ ownN (balOf S k) < S.n ∧ ownR (balOf S k) < rdsP S k (ownN (balOf S k)).toNat
  unfold balOf
  rw [o1, o2]
  refine ⟨by omega, by omega, ?_⟩
  unfold rdsP
  rw [if_pos (by omega)]
  omega
theorem second {S : Gp} (h : Inv S (rds S)) {k L : Nat} (hk : k < S.n) (hR : numR (S.nd k).rd k = 0) (hm : S.n < 2 * (rnd1 S k L).told.length) (x : ByteArray) : Sec S (rdsP S k) (voteOf S k x L) S.n (rnd2 S k x L) := by
  refine Sec.goes (first_ask h hk hR hm x) ?_ (fun j => ?_) L S.n (Nat.le_refl _)
  · rw [rnd1_S]
  · rw [rnd1_S]
    obtain ⟨a, b, c⟩ := nd1_same S (balOf S k) L S.n j
    exact ⟨a, c, b⟩
/-- Behind a call: the round rises above the one that was begun. -/
theorem nextR_up {S : Gp} {k : Nat} (hR : numR (S.nd k).rd k = 0) {x : Int} (h0 : 0 ≤ x) (h1 : x ≤ 1099511627776) : (S.nd k).rd + 1 ≤ nextR (balOf S k) x := by
  obtain ⟨o1, -⟩ := own_num hR
  have hB : balOf S k ≤ 1099511627776 := by
    unfold balOf numV
    split
    · decide
    · split
      · decide
      · omega
  unfold nextR
  have := ownR_mono (a := balOf S k) (b := max (balOf S k) x) (by omega) (by omega) (by omega)
  have e : ownR (balOf S k) = (S.nd k).rd := o1
  omega
theorem Inv.raise {S S' : Gp} {p : Nat} {r : Int} (h : Inv S' (rdsP S p)) (hr : ∀ j, (S'.nd j).rd = (S.nd j).rd) (hup : (S.nd p).rd + 1 ≤ r) : Inv (S'.setRd p r) (rds (S'.setRd p r)) := by
  have same : ∀ j, ((S'.setRd p r).nd j).A = (S'.nd j).A ∧ ((S'.setRd p r).nd j).log = (S'.nd j).log := fun j => by
    unfold Gp.setRd Gp.set at1
    simp only
    split
    · rename_i e; subst e; exact ⟨rfl, rfl⟩
    · exact ⟨rfl, rfl⟩
  refine h.turn rfl rfl rfl (fun j hj => ?_) (fun i hi j x hx => ?_) (fun i hi => ?_)
  · rw [(same j).1]; exact ⟨h.good j hj, rfl, Int.le_refl _⟩
  · rw [(same i).2] at hx
    exact h.g7 i hi j x hx
  · unfold rdsP rds Gp.setRd Gp.set at1
    simp only
    split
    · exact hup
    · rw [hr i]; exact Int.le_refl _
theorem Sec.push {S : Gp} {p : Nat} {v : V} {R : Rnd} (h : Sec S (rdsP S p) v S.n R) (hm : S.n < 2 * R.told.length) (hs : v.s = slotOf S p) : Inv (R.S.push p v.x) (rdsP S p) := by
  have I := h.ask.inv
  have hM : Maj R.S.n R.S.all v := by
    unfold Maj
    rw [h.n]
    have := h.told
    omega
  have same : ∀ j, ((R.S.push p v.x).nd j).A = (R.S.nd j).A ∧ ((R.S.push p v.x).nd j).log = if j = p then (R.S.nd p).log ++ [v.x] else (R.S.nd j).log := fun j => by
    unfold Gp.push Gp.set at1
    simp only
    split
    · rename_i e; subst e; exact ⟨rfl, rfl⟩
    · exact ⟨rfl, rfl⟩
  refine I.turn rfl rfl rfl (fun j hj => ?_) (fun i hi j x hx => ?_) (fun i hi => Int.le_refl _)
  · rw [(same j).1]; exact ⟨I.good j hj, rfl, Int.le_refl _⟩
  · rw [(same i).2] at hx
    split at hx
    · rename_i e
      subst e
      rw [List.getElem?_append] at hx
      split at hx
      · exact I.g7 i hi j x hx
      · rename_i hj
        have hl : (R.S.nd i).log.length = (S.nd i).log.length := by rw [(h.same i).1]
        have ej : j = (R.S.nd i).log.length := by
          obtain ⟨hlt, -⟩ := List.getElem?_eq_some_iff.1 hx
          simp at hlt
          omega
        subst ej
        simp at hx
        refine ⟨v, hM, ?_, hx⟩
        rw [hs, hl]; rfl
    · exact I.g7 i hi j x hx
theorem Inv.pro {S : Gp} (h : Inv S (rds S)) (i : Int) (x : ByteArray) (L : Nat) : Inv (proS S i x L) (rds (proS S i x L)) ∧ (proS S i x L).n = S.n := by
  unfold proS
  split
  · exact ⟨h, rfl⟩
  · rename_i hE
    obtain ⟨i0, hk, ei, hup, hx, hlog, hR⟩ := refE_zero (Classical.byContradiction fun e => hE e)
    have hi := rnd1_hi (fun j hj => h.good j hj) (balOf S i.toNat) (slotOf S i.toNat) L S.n (Nat.le_refl _)
    split
    · refine ⟨?_, by show (rnd1 S i.toNat L).S.n = S.n; rw [rnd1_S]⟩
      refine (h.inRnd i.toNat L).raise (fun j => ?_) (nextR_up hR hi.1 hi.2)
      rw [rnd1_S]; exact (nd1_same _ _ _ _ _).2.1
    · rename_i hm
      have hS := second h hk hR (by omega : S.n < 2 * (rnd1 S i.toNat L).told.length) x
      have h0 := hS.hi0
      have h1 := hS.hi1
      have hup' := nextR_up (x := max (rnd1 S i.toNat L).hi (rnd2 S i.toNat x L).hi) hR (by omega) (by have := hi.2; show max (rnd1 S i.toNat L).hi _ ≤ _; unfold rnd1; omega)
      split
      · exact ⟨hS.ask.inv.raise (fun j => (hS.same j).2.2) hup', hS.n⟩
      · rename_i hm2
        refine ⟨(hS.push (by omega) rfl).raise (fun j => ?_) hup', hS.n⟩
        unfold Gp.push Gp.set at1
        simp only
        split
        · rename_i e; subst e; exact (hS.same i.toNat).2.2
        · exact (hS.same j).2.2
theorem Inv.lea {S : Gp} (h : Inv S (rds S)) (i j : Int) : Inv (leaS S i j) (rds (leaS S i j)) ∧ (leaS S i j).n = S.n := by
  unfold leaS
  split
  · rename_i hc
    have hj : j.toNat < S.n := by
      have := hc.1
      unfold leaE at this
      split at this
      · cases this
      · rename_i hh
        simp only [not_or, Bool.not_eq_false] at hh
        have h2 := hh.2
        unfold Gp.has at h2
        simp only [decide_eq_true_eq] at h2
        omega
    refine ⟨h.turn rfl rfl rfl (fun k hk => ?_) (fun k hk q x hx => ?_) (fun k hk => ?_), rfl⟩
    · unfold Gp.set at1
      simp only
      split
      · rename_i e; subst e; exact ⟨h.good _ hk, rfl, Int.le_refl _⟩
      · exact ⟨h.good _ hk, rfl, Int.le_refl _⟩
    · unfold Gp.set at1 at hx
      simp only at hx
      split at hx
      · exact h.g7 j.toNat hj q x hx
      · exact h.g7 k hk q x hx
    · unfold rds Gp.set at1
      simp only
      split
      · rename_i e; subst e; exact Int.le_refl _
      · exact Int.le_refl _
  · exact ⟨h, rfl⟩
theorem Inv.sets {S : Gp} (h : Inv S (rds S)) (i : Int) (u : Bool) : Inv (setS S i u) (rds (setS S i u)) ∧ (setS S i u).n = S.n := by
  unfold setS
  split
  · exact ⟨h, rfl⟩
  · refine ⟨h.turn rfl rfl rfl (fun k hk => ?_) (fun k hk q x hx => ?_) (fun k hk => ?_), rfl⟩
    · unfold Gp.set at1
      simp only
      split
      · rename_i e; subst e; exact ⟨h.good _ hk, rfl, Int.le_refl _⟩
      · exact ⟨h.good _ hk, rfl, Int.le_refl _⟩
    · unfold Gp.set at1 at hx
      simp only at hx
      split at hx
      · rename_i e; subst e; exact h.g7 _ hk q x hx
      · exact h.g7 k hk q x hx
    · unfold rds Gp.set at1
      simp only
      split
      · rename_i e; subst e; exact Int.le_refl _
      · exact Int.le_refl _
end Go.Proofs.YtkcbmkedhipgeaaGreatDoor
