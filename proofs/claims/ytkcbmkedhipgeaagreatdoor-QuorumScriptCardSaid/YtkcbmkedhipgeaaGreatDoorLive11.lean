/-
  The program's group and the document's own side by side: what a call of either leaves of both, and of texts of one's own.

  What calls leave, counted: votes, logs, rounds; with a majority up and nothing lost the second proposal is chosen; without one none is.
-/
import Derived.Test.YtkcbmkedhipgeaaGreatDoorRq5
import Derived.Test.YtkcbmkedhipgeaaGreatDoorRq7
import Derived.Test.YtkcbmkedhipgeaaGreatDoorPq11
namespace Go.Proofs.YtkcbmkedhipgeaaGreatDoor
open Go.RowKit Go.ChangeMaps

/-- Both groups: the program's is S, the document's own is T; what was there at w0 stays. -/
structure BB (w0 w : World) (g r : Nat) (S T : Gp) (P : Pl) (Q : Ql) : Prop where
  pg : PG w g S P
  rg : RG w r T Q
  n : S.n = T.n
  ap : ∀ k, P.F S.n k → ∀ i, i < S.n → (Q.lr i).ownBlock ≠ some k
  bP : w0.heap.size ≤ P.B
  bQ : w0.heap.size ≤ Q.B
  un : Below w0.heap.size w0 w
/-- What turned. -/
structure BX (n : Nat) (P P' : Pl) (Q Q' : Ql) (w w' : World) : Prop where
  chg : Chg (fun k o => pP n P k o ∨ pR Q.B k o) w w'
  newP : ∀ k, P'.F n k → P.F n k ∨ w.heap.size ≤ k
  newQ : ∀ i, i < n → ∀ b, (Q'.lr i).ownBlock = some b → (∃ j, j < n ∧ (Q.lr j).ownBlock = some b) ∨ w.heap.size ≤ b
  B : P'.B = P.B ∧ Q'.B = Q.B
theorem BX.of_below {n : Nat} {P : Pl} {Q : Ql} {w w' : World} (h : Below w.heap.size w w') : BX n P P Q Q w w' := ⟨Chg.of_below h, fun _ h => .inl h, fun i hi _ h => .inl ⟨i, hi, h⟩, rfl, rfl⟩
theorem BX.trans {n : Nat} {P P1 P2 : Pl} {Q Q1 Q2 : Ql} {w w1 w2 : World} (h : BX n P P1 Q Q1 w w1) (h' : BX n P1 P2 Q1 Q2 w1 w2) : BX n P P2 Q Q2 w w2 := by
  refine ⟨h.chg.trans h'.chg fun k o hk hp => ?_, fun k hk => ?_, fun i hi b hb => ?_, h'.B.1.trans h.B.1, h'.B.2.trans h.B.2⟩
  · rcases hp with ⟨hB, hp⟩ | ⟨hB, hp⟩
    · left
      rw [h.B.1] at hB
      refine ⟨hB, ?_⟩
      rcases hp with hp | hp | hp
      · exact .inl hp
      · exact .inr (.inl hp)
      · rcases h.newP k hp with hp | hp
        · exact .inr (.inr hp)
        · have := lt_of hk; omega
    · right
      rw [h.B.2] at hB
      exact ⟨hB, hp⟩
  · rcases h'.newP k hk with hk | hk
    · exact h.newP k hk
    · right; exact Nat.le_trans h.chg.size hk
  · rcases h'.newQ i hi b hb with ⟨j, hj, hb⟩ | hb
    · exact h.newQ j hj b hb
    · right; exact Nat.le_trans h.chg.size hb
/-- Texts of one's own stay. -/
theorem BX.texts {n : Nat} {P P' : Pl} {Q Q' : Ql} {w w' : World} (h : BX n P P' Q Q' w w') {base : Nat} {v : Value} {l : List ByteArray} (ho : OwnsS w base v l) (hF : ∀ k, v.ownBlock = some k → ¬ P.F n k) : OwnsS w' base v l ∧ ∀ k, v.ownBlock = some k → ¬ P'.F n k := by
  refine ⟨ho.chg h.chg fun k hk cur f hp => ?_, fun k hk hp => ?_⟩
  · rcases hp with hp | hp
    · rcases hp.2 with hp | hp | hp
      · simp [isTy] at hp
      · exact hp
      · exact hF k hk hp
    · have h2 := hp.2
      simp only [isTy, List.mem_cons, List.not_mem_nil, or_false] at h2
      exact absurd h2 (by decide)
  · rcases h.newP k hp with hp | hp
    · exact hF k hk hp
    · have := (ho.lt hk).2; omega
/-- A block of another type stays. -/
theorem BX.other {n : Nat} {P P' : Pl} {Q Q' : Ql} {w w' : World} {g : Nat} {S : Gp} (h : BX n P P' Q Q' w w') (hg : PG w g S P) (hn : S.n = n) {k : Nat} {cs : Array Value} {t : TypeId} (hk : w.heap[k]? = some (.cells cs t (0, 0)))
    (ht : t ∉ [62, 103, 9, 33, 69, 67, 80]) : w'.heap[k]? = some (.cells cs t (0, 0)) := by
  subst hn
  simp only [List.mem_cons, List.not_mem_nil, or_false, not_or] at ht
  obtain ⟨t1, t2, t3, t4, t5, t6, t7⟩ := ht
  refine h.chg.keep hk fun hp => ?_
  rcases hp with hp | hp
  · rcases hp.2 with hp | hp | hp
    · simp only [isTy, List.mem_cons, List.not_mem_nil, or_false] at hp
      rcases hp with e | e
      · exact t1 e
      · exact t2 e
    · exact hp
    · obtain ⟨cur, h3⟩ := hg.F_ty hp
      rw [hk] at h3
      injection h3 with h3
      injection h3 with _ h4
      exact t3 h4
  · have h2 := hp.2
    simp only [isTy, List.mem_cons, List.not_mem_nil, or_false] at h2
    rcases h2 with e | e | e | e
    · exact t4 e
    · exact t5 e
    · exact t6 e
    · exact t7 e
section
variable {w0 w w' : World} {g r : Nat} {S T S' T' : Gp} {P P' : Pl} {Q Q' : Ql}
theorem BB.lrLt (h : BB w0 w g r S T P Q) {i : Nat} (hi : i < S.n) {b : Nat} (hb : (Q.lr i).ownBlock = some b) : b < w.heap.size := ((h.rg.nd i (by rw [← h.n]; exact hi)).log.lt hb).2
theorem BB.below (h : BB w0 w g r S T P Q) (hb : Below w.heap.size w w') : BB w0 w' g r S T P Q ∧ BX S.n P P Q Q w w' :=
  ⟨⟨h.pg.below hb, h.rg.below hb, h.n, h.ap, h.bP, h.bQ, h.un.trans (hb.mono h.un.size)⟩, BX.of_below hb⟩
/-- The program's has been called. -/
theorem BB.prog (h : BB w0 w g r S T P Q) (hp : PG w' g S' P') (ht : PT S.n P P' w w') (hn : S'.n = S.n) : BB w0 w' g r S' T P' Q ∧ BX S.n P P' Q Q w w' := by
  refine ⟨⟨hp, ?_, hn.trans h.n, fun k hk i hi => ?_, by rw [ht.fix.2.2.2.2]; exact h.bP, h.bQ, ?_⟩, ⟨ht.chg.mono fun k o hp => .inl hp, ht.new, fun i hi b hb => .inl ⟨i, hi, hb⟩, ht.fix.2.2.2.2, rfl⟩⟩
  · refine h.rg.keep fun k o hk hm => ht.chg.keep hk fun hp => ?_
    rcases hm with hm | ⟨i, hi, hm⟩
    · cases o with
      | cells cs t f =>
        rcases hp.2 with hp | hp | hp
        · simp only [isTy, List.mem_cons, List.not_mem_nil, or_false] at hp hm
          rcases hp with rfl | rfl
          · exact absurd hm (by decide)
          · exact absurd hm (by decide)
        · exact hp
        · obtain ⟨cur, h3⟩ := h.pg.F_ty hp
          rw [hk] at h3
          injection h3 with h3
          injection h3 with _ h4
          simp only [isTy, List.mem_cons, List.not_mem_nil, or_false] at hm
          rw [h4] at hm
          exact absurd hm (by decide)
      | _ => exact hm
    · have hi' : i < S.n := by rw [h.n]; exact hi
      obtain ⟨cur, h3⟩ := (h.rg.nd i hi).log.ty hm
      rw [hk] at h3
      injection h3 with h3
      rcases hp.2 with hp | hp | hp
      · rw [h3] at hp
        simp only [isTy, List.mem_cons, List.not_mem_nil, or_false] at hp
        exact absurd hp (by decide)
      · rw [h3] at hp; exact hp
      · exact h.ap k hp i hi' hm
  · rw [hn] at hk hi
    rcases ht.new k hk with hk | hk
    · exact h.ap k hk i hi
    · intro e
      have := h.lrLt hi e
      omega
  · have hB : P.B ≤ w.heap.size := by have := h.pg.tab.lo; have := h.pg.tab.om.lt; omega
    exact h.un.trans ((ht.under hB).mono h.bP)
/-- The document's own has been called. -/
theorem BB.ref (h : BB w0 w g r S T P Q) (hp : RG w' r T' Q') (ht : RT T.n Q Q' w w') (hn : T'.n = T.n) : BB w0 w' g r S T' P Q' ∧ BX S.n P P Q Q' w w' := by
  refine ⟨⟨?_, hp, h.n.trans hn.symm, fun k hk i hi e => ?_, h.bP, by rw [ht.fix.2.2.2.2]; exact h.bQ, ?_⟩, ⟨ht.chg.mono fun k o hp => .inr hp, fun k h => .inl h, fun i hi b hb => by rw [h.n] at hi ⊢; exact ht.new i hi b hb, rfl, ht.fix.2.2.2.2⟩⟩
  · refine h.pg.keep fun k o hk hm => ht.chg.keep hk fun hp => ?_
    have h2 := hp.2
    rcases hm with hm | hm | hm
    · cases o with
      | cells cs t f =>
        simp only [isTy, List.mem_cons, List.not_mem_nil, or_false] at h2 hm
        rcases hm with rfl | rfl | rfl | rfl | rfl
        · exact absurd h2 (by decide)
        · exact absurd h2 (by decide)
        · exact absurd h2 (by decide)
        · exact absurd h2 (by decide)
        · exact absurd h2 (by decide)
      | _ => exact hm
    · cases o with
      | cells cs t f => exact hm
      | _ => exact h2
    · obtain ⟨cur, h3⟩ := h.pg.F_ty hm
      rw [hk] at h3
      injection h3 with h3
      rw [h3] at h2
      simp only [isTy, List.mem_cons, List.not_mem_nil, or_false] at h2
      exact absurd h2 (by decide)
  · have hi' : i < T.n := by rw [← h.n]; exact hi
    rcases ht.new i hi' k e with ⟨j, hj, e⟩ | e
    · exact h.ap k hk j (by rw [h.n]; exact hj) e
    · have := h.pg.F_lt hk
      omega
  · have hB : Q.B ≤ w.heap.size := by have := h.rg.lo; have := lt_of h.rg.grp; omega
    exact h.un.trans ((ht.under hB).mono h.bQ)
end
end Go.Proofs.YtkcbmkedhipgeaaGreatDoor

namespace Go.Proofs.YtkcbmkedhipgeaaGreatDoor
open Go.RowKit Go.ChangeMaps

/-- A group behind m calls. -/
structure LV (S : Gp) (m : Nat) : Prop where
  inv : Inv S (rds S)
  all : S.all.length ≤ 5 * m
  log : ∀ k, k < S.n → (S.nd k).log.length ≤ m
  rd : ∀ k, k < S.n → 0 ≤ (S.nd k).rd ∧ (S.nd k).rd ≤ m
  ow : ∀ k, k < S.n → ownR (S.nd k).A.p ≤ m
theorem LV.mono {S : Gp} {m m' : Nat} (h : LV S m) (hm : m ≤ m') : LV S m' :=
  ⟨h.inv, by have := h.all; omega, fun k hk => by have := h.log k hk; omega, fun k hk => by have := h.rd k hk; omega, fun k hk => by have := h.ow k hk; omega⟩
theorem LV.start (n : Nat) (h0 : 1 ≤ n) (h5 : n ≤ 5) : LV (Gp.start n) 0 :=
  ⟨new_inv n h0 h5 _, Nat.le_refl _, fun _ _ => Nat.le_refl _, fun _ _ => ⟨Int.le_refl _, Int.le_refl _⟩, fun _ _ => by show ownR 0 ≤ 0; decide⟩

/-! ### what asking leaves -/
/-- A promise is one that was there, or this ballot. -/
def Pv (S : Gp) (b z : Int) : Prop := z = 0 ∨ z = b ∨ ∃ j, j < S.n ∧ z = (S.nd j).A.p
theorem Pv.both {S : Gp} {b x y : Int} (hx : Pv S b x) (hy : Pv S b y) : Pv S b (max x y) := by
  rcases Int.le_total x y with h | h
  · rw [show max x y = y by omega]; exact hy
  · rw [show max x y = x by omega]; exact hx
structure Rv (S : Gp) (b : Int) (R : Rnd) : Prop where
  n : R.S.n = S.n
  p : ∀ j, j < S.n → Pv S b (R.S.nd j).A.p
  hi : Pv S b R.hi
  same : ∀ j, (R.S.nd j).up = (S.nd j).up ∧ (R.S.nd j).log = (S.nd j).log ∧ (R.S.nd j).rd = (S.nd j).rd
  len : S.all.length ≤ R.S.all.length
  all : ∀ j v, (j, v) ∈ S.all → (j, v) ∈ R.S.all
theorem prep_p' (A : Acc) (b : Int) : (A.prep b).p = A.p ∨ (A.prep b).p = b := by
  unfold Acc.prep
  split
  · exact .inr rfl
  · exact .inl rfl
theorem accept_p' (A : Acc) (v : V) : (A.accept v).p = A.p ∨ (A.accept v).p = v.b := by
  unfold Acc.accept
  split
  · exact .inr rfl
  · exact .inl rfl
theorem Rv.prepOne {S : Gp} {b : Int} {R : Rnd} (h : Rv S b R) {i : Nat} (hi : i < S.n) (told : List (List V)) (hi' : Int) (hp : Pv S b hi') : Rv S b ⟨R.S.set i ((R.S.nd i).setA ((R.S.nd i).A.prep b)), told, hi'⟩ := by
  refine ⟨h.n, fun j hj => ?_, hp, fun j => ?_, h.len, h.all⟩
  · show Pv S b ((R.S.set i _).nd j).A.p
    rw [set_nd]
    split
    · show Pv S b ((R.S.nd i).A.prep b).p
      rcases prep_p' (R.S.nd i).A b with e | e
      · rw [e]; exact h.p i hi
      · rw [e]; exact .inr (.inl rfl)
    · exact h.p j hj
  · show (((R.S.set i _).nd j).up = _ ∧ ((R.S.set i _).nd j).log = _ ∧ ((R.S.set i _).nd j).rd = _)
    rw [set_nd]
    split
    · rename_i e; subst e; exact h.same j
    · exact h.same j
theorem Rv.pPrep {S : Gp} {b : Int} {R : Rnd} (h : Rv S b R) {i : Nat} (hi : i < S.n) : Pv S b ((R.S.nd i).A.prep b).p := by
  rcases prep_p' (R.S.nd i).A b with e | e
  · rw [e]; exact h.p i hi
  · rw [e]; exact .inr (.inl rfl)
theorem Rv.ask1 {S : Gp} {b : Int} {R : Rnd} (h : Rv S b R) (sl : Int) (L : Nat) {i : Nat} (hi : i < S.n) : Rv S b (Go.Proofs.YtkcbmkedhipgeaaGreatDoor.ask1 b sl L R i) := by
  unfold Go.Proofs.YtkcbmkedhipgeaaGreatDoor.ask1
  split
  · exact h
  · split
    · exact h.prepOne hi _ _ h.hi
    · exact h.prepOne hi _ _ (h.hi.both (h.pPrep hi))
theorem Rv.accOne {S : Gp} {R : Rnd} {v : V} (h : Rv S v.b R) {i : Nat} (hi : i < S.n) (told : List (List V)) (hi' : Int) (hp : Pv S v.b hi') : Rv S v.b ⟨accS R.S i v, told, hi'⟩ := by
  refine ⟨(accS_n _ _ _).trans h.n, fun j hj => ?_, hp, fun j => ?_, Nat.le_trans h.len ?_, fun j u hu => accS_all j u (h.all j u hu)⟩
  · show Pv S v.b ((accS R.S i v).nd j).A.p
    by_cases e : j = i
    · rw [e, accS_A]
      rcases accept_p' (R.S.nd i).A v with e | e
      · rw [e]; exact h.p i hi
      · rw [e]; exact .inr (.inl rfl)
    · rw [accS_other _ _ _ e]; exact h.p j hj
  · obtain ⟨a1, a2, a3⟩ := accS_same R.S i v j
    obtain ⟨b1, b2, b3⟩ := h.same j
    exact ⟨a2.trans b1, a1.trans b2, a3.trans b3⟩
  · show _ ≤ (accS R.S i v).all.length
    unfold accS
    split
    · show _ ≤ (R.S.all ++ [(i, v)]).length
      rw [List.length_append]; omega
    · exact Nat.le_refl _
theorem Rv.ask2 {S : Gp} {R : Rnd} {v : V} (h : Rv S v.b R) (L : Nat) {i : Nat} (hi : i < S.n) : Rv S v.b (Go.Proofs.YtkcbmkedhipgeaaGreatDoor.ask2 v L R i) := by
  have hp : Pv S v.b ((R.S.nd i).A.accept v).p := by
    rcases accept_p' (R.S.nd i).A v with e | e
    · rw [e]; exact h.p i hi
    · rw [e]; exact .inr (.inl rfl)
  unfold Go.Proofs.YtkcbmkedhipgeaaGreatDoor.ask2
  split
  · exact h
  · split
    · exact h.accOne hi _ _ h.hi
    · exact h.accOne hi _ _ (h.hi.both hp)
theorem Rv.goes1 {S : Gp} {b : Int} (sl : Int) (L : Nat) : ∀ k, k ≤ S.n → Rv S b (goes (Go.Proofs.YtkcbmkedhipgeaaGreatDoor.ask1 b sl L) ⟨S, [], 0⟩ k)
  | 0, _ => ⟨rfl, fun j hj => .inr (.inr ⟨j, hj, rfl⟩), .inl rfl, fun _ => ⟨rfl, rfl, rfl⟩, Nat.le_refl _, fun _ _ h => h⟩
  | k + 1, hk => (Rv.goes1 sl L k (by omega)).ask1 sl L (by omega)
theorem Rv.rnd1 (S : Gp) (k L : Nat) : Rv S (balOf S k) (Go.Proofs.YtkcbmkedhipgeaaGreatDoor.rnd1 S k L) := Rv.goes1 _ L S.n (Nat.le_refl _)
theorem Rv.goes2 {S : Gp} {v : V} {R : Rnd} (h : Rv S v.b R) (L : Nat) : ∀ k, k ≤ S.n → Rv S v.b (goes (Go.Proofs.YtkcbmkedhipgeaaGreatDoor.ask2 v L) ⟨R.S, [], 0⟩ k)
  | 0, _ => ⟨h.n, h.p, .inl rfl, h.same, h.len, h.all⟩
  | k + 1, hk => (Rv.goes2 h L k (by omega)).ask2 L (by omega)
theorem Rv.rnd2 (S : Gp) (k : Nat) (x : ByteArray) (L : Nat) : Rv S (balOf S k) (Go.Proofs.YtkcbmkedhipgeaaGreatDoor.rnd2 S k x L) := Rv.goes2 (v := voteOf S k x L) (Rv.rnd1 S k L) L S.n (Nat.le_refl _)
theorem goes2_len (v : V) (L : Nat) (R : Rnd) : ∀ k, (goes (ask2 v L) R k).S.all.length ≤ R.S.all.length + k
  | 0 => Nat.le_refl _
  | k + 1 => by
    have ih := goes2_len v L R k
    have := ask2_len v L (goes (ask2 v L) R k) k
    show (ask2 v L (goes (ask2 v L) R k) k).S.all.length ≤ _
    omega
theorem rnd2_len (S : Gp) (k : Nat) (x : ByteArray) (L : Nat) : (rnd2 S k x L).S.all.length ≤ S.all.length + S.n := by
  have := goes2_len (voteOf S k x L) L ⟨(rnd1 S k L).S, [], 0⟩ S.n
  rw [rnd1_all] at this
  exact this
/-- What Propose leaves. -/
structure Pd (S S' : Gp) (k : Nat) (b h : Int) : Prop where
  n : S'.n = S.n
  p : ∀ j, j < S.n → Pv S b (S'.nd j).A.p
  hi : Pv S b h
  up : ∀ j, (S'.nd j).up = (S.nd j).up
  log : ∀ j, j ≠ k → (S'.nd j).log = (S.nd j).log
  logk : (S'.nd k).log = (S.nd k).log ∨ ∃ y, (S'.nd k).log = (S.nd k).log ++ [y]
  rd : ∀ j, j ≠ k → (S'.nd j).rd = (S.nd j).rd
  rdk : (S'.nd k).rd = nextR b h
  len : S'.all.length ≤ S.all.length + S.n
  all : ∀ j v, (j, v) ∈ S.all → (j, v) ∈ S'.all
theorem Rv.rise {S : Gp} {b : Int} {R : Rnd} (h : Rv S b R) (k : Nat) (hi : Int) (hp : Pv S b hi) (hl : R.S.all.length ≤ S.all.length + S.n) : Pd S (R.S.setRd k (nextR b hi)) k b hi := by
  refine ⟨h.n, fun j hj => ?_, hp, fun j => ?_, fun j hj => ?_, .inl ?_, fun j hj => ?_, ?_, hl, h.all⟩
  · rw [setRd_nd]
    split
    · rename_i e; subst e; exact h.p j hj
    · exact h.p j hj
  · rw [setRd_nd]
    split
    · rename_i e; subst e; exact (h.same j).1
    · exact (h.same j).1
  · rw [setRd_nd, if_neg hj]; exact (h.same j).2.1
  · rw [setRd_nd, if_pos rfl]; exact (h.same k).2.1
  · rw [setRd_nd, if_neg hj]; exact (h.same j).2.2
  · rw [setRd_nd, if_pos rfl]
theorem Rv.pushed {S : Gp} {b : Int} {R : Rnd} (h : Rv S b R) (k : Nat) (y : ByteArray) (hi : Int) (hp : Pv S b hi) (hl : R.S.all.length ≤ S.all.length + S.n) : Pd S ((R.S.push k y).setRd k (nextR b hi)) k b hi ∧ (((R.S.push k y).setRd k (nextR b hi)).nd k).log = (S.nd k).log ++ [y] := by
  have hk : (((R.S.push k y).setRd k (nextR b hi)).nd k).log = (S.nd k).log ++ [y] := by
    rw [setRd_nd, if_pos rfl]
    unfold Gp.push
    rw [set_nd, if_pos rfl]
    show (R.S.nd k).log ++ [y] = _
    rw [(h.same k).2.1]
  have hne : ∀ j, j ≠ k → ((R.S.push k y).setRd k (nextR b hi)).nd j = R.S.nd j := fun j hj => by
    rw [setRd_nd, if_neg hj]
    unfold Gp.push
    rw [set_nd, if_neg hj]
  have heq : (((R.S.push k y).setRd k (nextR b hi)).nd k).A = (R.S.nd k).A ∧ (((R.S.push k y).setRd k (nextR b hi)).nd k).up = (R.S.nd k).up := by
    rw [setRd_nd, if_pos rfl]
    unfold Gp.push
    rw [set_nd, if_pos rfl]
    exact ⟨rfl, rfl⟩
  refine ⟨⟨h.n, fun j hj => ?_, hp, fun j => ?_, fun j hj => ?_, .inr ⟨y, hk⟩, fun j hj => ?_, ?_, hl, h.all⟩, hk⟩
  · by_cases e : j = k
    · subst e; rw [heq.1]; exact h.p j hj
    · rw [hne j e]; exact h.p j hj
  · by_cases e : j = k
    · subst e; rw [heq.2]; exact (h.same j).1
    · rw [hne j e]; exact (h.same j).1
  · rw [hne j hj]; exact (h.same j).2.1
  · rw [hne j hj]; exact (h.same j).2.2
  · rw [setRd_nd, if_pos rfl]
/-- What Propose answers, and leaves, where nothing is wrong with it. -/
theorem pro_ways {S : Gp} {i : Int} {x : ByteArray} (hE : refE S i x = 0) (L : Nat) :
    ∃ h, Pd S (proS S i x L) i.toNat (balOf S i.toNat) h ∧
      ((2 * (rnd1 S i.toNat L).told.length ≤ S.n ∧ h = (rnd1 S i.toNat L).hi ∧ proE S i x L = (0, ⟨#[]⟩, 110) ∧ proS S i x L = (rnd1 S i.toNat L).S.setRd i.toNat (nextR (balOf S i.toNat) h)) ∨
        (S.n < 2 * (rnd1 S i.toNat L).told.length ∧ h = max (rnd1 S i.toNat L).hi (rnd2 S i.toNat x L).hi ∧
          ((2 * (rnd2 S i.toNat x L).told.length ≤ S.n ∧ proE S i x L = (0, ⟨#[]⟩, 110) ∧ proS S i x L = (rnd2 S i.toNat x L).S.setRd i.toNat (nextR (balOf S i.toNat) h)) ∨
            (S.n < 2 * (rnd2 S i.toNat x L).told.length ∧ proE S i x L = (slotOf S i.toNat, (voteOf S i.toNat x L).x, 0) ∧ ((proS S i x L).nd i.toNat).log = (S.nd i.toNat).log ++ [(voteOf S i.toNat x L).x] ∧ proS S i x L = ((rnd2 S i.toNat x L).S.push i.toNat (voteOf S i.toNat x L).x).setRd i.toNat (nextR (balOf S i.toNat) h))))) := by
  have v1 := Rv.rnd1 S i.toNat L
  have v2 := Rv.rnd2 S i.toNat x L
  have l1 : (rnd1 S i.toNat L).S.all.length ≤ S.all.length + S.n := by rw [rnd1_all]; omega
  have l2 := rnd2_len S i.toNat x L
  by_cases h1 : 2 * (rnd1 S i.toNat L).told.length ≤ S.n
  · have es : proS S i x L = (rnd1 S i.toNat L).S.setRd i.toNat (nextR (balOf S i.toNat) (rnd1 S i.toNat L).hi) := by unfold proS; rw [if_neg (fun e => e hE), if_pos h1]
    have ee : proE S i x L = (0, ⟨#[]⟩, 110) := by unfold proE; rw [if_neg (fun e => e hE), if_pos h1]
    refine ⟨_, ?_, .inl ⟨h1, rfl, ee, es⟩⟩
    rw [es]; exact v1.rise _ _ v1.hi l1
  · by_cases h2 : 2 * (rnd2 S i.toNat x L).told.length ≤ S.n
    · have es : proS S i x L = (rnd2 S i.toNat x L).S.setRd i.toNat (nextR (balOf S i.toNat) (max (rnd1 S i.toNat L).hi (rnd2 S i.toNat x L).hi)) := by unfold proS; rw [if_neg (fun e => e hE), if_neg h1, if_pos h2]
      have ee : proE S i x L = (0, ⟨#[]⟩, 110) := by unfold proE; rw [if_neg (fun e => e hE), if_neg h1, if_pos h2]
      refine ⟨_, ?_, .inr ⟨by omega, rfl, .inl ⟨h2, ee, es⟩⟩⟩
      rw [es]; exact v2.rise _ _ (v1.hi.both v2.hi) l2
    · have es : proS S i x L = ((rnd2 S i.toNat x L).S.push i.toNat (voteOf S i.toNat x L).x).setRd i.toNat (nextR (balOf S i.toNat) (max (rnd1 S i.toNat L).hi (rnd2 S i.toNat x L).hi)) := by unfold proS; rw [if_neg (fun e => e hE), if_neg h1, if_neg h2]
      have ee : proE S i x L = (slotOf S i.toNat, (voteOf S i.toNat x L).x, 0) := by unfold proE; rw [if_neg (fun e => e hE), if_neg h1, if_neg h2]
      obtain ⟨q1, q2⟩ := v2.pushed i.toNat (voteOf S i.toNat x L).x (max (rnd1 S i.toNat L).hi (rnd2 S i.toNat x L).hi) (v1.hi.both v2.hi) l2
      refine ⟨_, ?_, .inr ⟨by omega, rfl, .inr ⟨by omega, ee, ?_, es⟩⟩⟩
      · rw [es]; exact q1
      · rw [es]; exact q2
theorem pro_no {S : Gp} {i : Int} {x : ByteArray} (hE : refE S i x ≠ 0) (L : Nat) : proE S i x L = (0, ⟨#[]⟩, refE S i x) ∧ proS S i x L = S := by
  unfold proE proS; rw [if_pos hE, if_pos hE]; exact ⟨rfl, rfl⟩

/-! ### counted -/
theorem Pv.own {S : Gp} {m : Nat} {b z : Int} (h : LV S m) (hb : ownR b ≤ m) (hz : Pv S b z) : ownR z ≤ m := by
  rcases hz with rfl | rfl | ⟨j, hj, rfl⟩
  · have : ownR 0 = -1 := by decide
    omega
  · exact hb
  · exact h.ow j hj
theorem LV.pro {S : Gp} {m : Nat} (h : LV S m) (i : Int) (x : ByteArray) (L : Nat) : LV (proS S i x L) (m + 1) := by
  by_cases hE : refE S i x = 0
  · obtain ⟨hi, hd, -⟩ := pro_ways hE L
    obtain ⟨i0, hk, ei, hup, hx, hlog, hR⟩ := refE_zero hE
    obtain ⟨hI, -⟩ := h.inv.pro i x L
    have hn5 := h.inv.n5
    have hob : ownR (balOf S i.toNat) ≤ m := by
      have e : ownR (balOf S i.toNat) = (S.nd i.toNat).rd := (own_num hR).1
      rw [e]; exact (h.rd _ hk).2
    have hmx : ownR (max (balOf S i.toNat) hi) ≤ m := Pv.own h hob (Pv.both (.inr (.inl rfl)) hd.hi)
    have hle := (ownR_le (max (balOf S i.toNat) hi)).1
    refine ⟨hI, ?_, fun k hk' => ?_, fun k hk' => ?_, fun k hk' => ?_⟩
    · have := hd.len; have := h.all; omega
    · rw [hd.n] at hk'
      by_cases e : k = i.toNat
      · subst e
        rcases hd.logk with e | ⟨y, e⟩
        · rw [e]; have := h.log _ hk'; omega
        · rw [e, List.length_append, List.length_singleton]; have := h.log _ hk'; omega
      · rw [hd.log k e]; have := h.log _ hk'; omega
    · rw [hd.n] at hk'
      by_cases e : k = i.toNat
      · subst e
        rw [hd.rdk]
        unfold nextR
        omega
      · rw [hd.rd k e]; have := h.rd _ hk'; omega
    · rw [hd.n] at hk'
      have := Pv.own h hob (hd.p k hk')
      omega
  · rw [(pro_no hE L).2]; exact h.mono (by omega)
theorem LV.lea {S : Gp} {m : Nat} (h : LV S m) (i j : Int) : LV (leaS S i j) m := by
  obtain ⟨hI, -⟩ := h.inv.lea i j
  have key : ∀ k, ((leaS S i j).nd k).A = (S.nd k).A ∧ ((leaS S i j).nd k).rd = (S.nd k).rd := fun k => by
    unfold leaS
    split
    · rw [set_nd]
      split
      · rename_i e; subst e; exact ⟨rfl, rfl⟩
      · exact ⟨rfl, rfl⟩
    · exact ⟨rfl, rfl⟩
  have hn : (leaS S i j).n = S.n := (h.inv.lea i j).2
  refine ⟨hI, ?_, fun k hk => ?_, fun k hk => ?_, fun k hk => ?_⟩
  · have e : (leaS S i j).all = S.all := by unfold leaS; split <;> rfl
    rw [e]; exact h.all
  · rw [hn] at hk
    unfold leaS
    split
    · rename_i hc
      rw [set_nd]
      split
      · have hj : j.toNat < S.n := by
          have := hc.1
          unfold leaE at this
          split at this
          · cases this
          · rename_i hh
            simp only [not_or, Bool.not_eq_false] at hh
            exact (has_nat hh.2).2
        exact h.log j.toNat hj
      · exact h.log k hk
    · exact h.log k hk
  · rw [hn] at hk; rw [(key k).2]; exact h.rd k hk
  · rw [hn] at hk; rw [(key k).1]; exact h.ow k hk
theorem LV.sets {S : Gp} {m : Nat} (h : LV S m) (i : Int) (u : Bool) : LV (setS S i u) m := by
  obtain ⟨hI, hn⟩ := h.inv.sets i u
  have key : ∀ k, ((setS S i u).nd k).A = (S.nd k).A ∧ ((setS S i u).nd k).rd = (S.nd k).rd ∧ ((setS S i u).nd k).log = (S.nd k).log := fun k => by
    unfold setS
    split
    · exact ⟨rfl, rfl, rfl⟩
    · rw [set_nd]
      split
      · rename_i e; subst e; exact ⟨rfl, rfl, rfl⟩
      · exact ⟨rfl, rfl, rfl⟩
  refine ⟨hI, ?_, fun k hk => ?_, fun k hk => ?_, fun k hk => ?_⟩
  · have e : (setS S i u).all = S.all := by unfold setS; split <;> rfl
    rw [e]; exact h.all
  · rw [hn] at hk; rw [(key k).2.2]; exact h.log k hk
  · rw [hn] at hk; rw [(key k).2.1]; exact h.rd k hk
  · rw [hn] at hk; rw [(key k).1]; exact h.ow k hk

/-! ### the second proposal is chosen -/
theorem refE_ok {S : Gp} {m : Nat} (h : LV S m) (hm : m ≤ 4000) {k : Nat} (hk : k < S.n) (hu : (S.nd k).up = true) {x : ByteArray} (hx : x.size ≤ 1024) : refE S k x = 0 := by
  have hn5 := h.inv.n5
  have hl := h.log k hk
  have hr := h.rd k hk
  unfold refE
  rw [show S.has (k : Int) = true from has_iff.2 ⟨by omega, by omega⟩, if_neg (by decide), show ((k : Int)).toNat = k by omega, hu, if_neg (by decide), if_neg (by omega), if_neg (by omega)]
  unfold numR
  rw [if_neg (by omega), if_neg (by omega)]
theorem bal_is {S : Gp} {m : Nat} (h : LV S m) (hm : m ≤ 4000) {k : Nat} (hk : k < S.n) : balOf S k = 8 * (S.nd k).rd + k + 1 ∧ isB (balOf S k) := by
  have hn5 := h.inv.n5
  have hr := h.rd k hk
  have e : balOf S k = 8 * (S.nd k).rd + k + 1 := by
    unfold balOf numV
    rw [if_neg (by omega), if_neg (by omega)]
  exact ⟨e, by unfold isB; omega⟩
/-- No promise of a node that is up is above the ballot. -/
def Clr (S : Gp) (k : Nat) : Prop := ∀ j, j < S.n → (S.nd j).up = true → (S.nd j).A.p ≤ balOf S k
/-- Of each node that was asked what it promised is heard. -/
theorem heard1 (S : Gp) (b sl : Int) : ∀ k, (∀ j, j < k → (S.nd j).up = true → ((goes (ask1 b sl 0) ⟨S, [], 0⟩ k).S.nd j).A.p ≤ (goes (ask1 b sl 0) ⟨S, [], 0⟩ k).hi) ∧ ∀ j, ((goes (ask1 b sl 0) ⟨S, [], 0⟩ k).S.nd j).up = (S.nd j).up
  | 0 => ⟨fun j hj => absurd hj (Nat.not_lt_zero _), fun _ => rfl⟩
  | k + 1 => by
    obtain ⟨h1, h2⟩ := heard1 S b sl k
    show (∀ j, j < k + 1 → (S.nd j).up = true → ((ask1 b sl 0 (goes (ask1 b sl 0) ⟨S, [], 0⟩ k) k).S.nd j).A.p ≤ (ask1 b sl 0 (goes (ask1 b sl 0) ⟨S, [], 0⟩ k) k).hi) ∧ ∀ j, ((ask1 b sl 0 (goes (ask1 b sl 0) ⟨S, [], 0⟩ k) k).S.nd j).up = (S.nd j).up
    generalize goes (ask1 b sl 0) ⟨S, [], 0⟩ k = R at h1 h2 ⊢
    unfold ask1
    by_cases hu : (R.S.nd k).up = false
    · rw [if_pos (.inl hu)]
      refine ⟨fun j hj hj' => ?_, h2⟩
      by_cases e : j = k
      · subst e; rw [← h2, hu] at hj'; cases hj'
      · exact h1 j (by omega) hj'
    · rw [if_neg (by simp [hu]), if_neg (by simp)]
      refine ⟨fun j hj hj' => ?_, fun j => ?_⟩
      · show ((R.S.set k _).nd j).A.p ≤ max R.hi ((R.S.nd k).A.prep b).p
        rw [set_nd]
        split
        · show ((R.S.nd k).A.prep b).p ≤ _; omega
        · rename_i e
          have := h1 j (by omega) hj'
          omega
      · show ((R.S.set k _).nd j).up = _
        rw [set_nd]
        split
        · rename_i e; subst e; exact h2 j
        · exact h2 j
theorem heard2 (S1 : Gp) (v : V) : ∀ k, (∀ j, j < k → (S1.nd j).up = true → ((goes (ask2 v 0) ⟨S1, [], 0⟩ k).S.nd j).A.p ≤ (goes (ask2 v 0) ⟨S1, [], 0⟩ k).hi) ∧ (∀ j, ((goes (ask2 v 0) ⟨S1, [], 0⟩ k).S.nd j).up = (S1.nd j).up) ∧ ∀ j, k ≤ j → (goes (ask2 v 0) ⟨S1, [], 0⟩ k).S.nd j = S1.nd j
  | 0 => ⟨fun j hj => absurd hj (Nat.not_lt_zero _), fun _ => rfl, fun _ _ => rfl⟩
  | k + 1 => by
    obtain ⟨h1, h2, h3⟩ := heard2 S1 v k
    show (∀ j, j < k + 1 → (S1.nd j).up = true → ((ask2 v 0 (goes (ask2 v 0) ⟨S1, [], 0⟩ k) k).S.nd j).A.p ≤ (ask2 v 0 (goes (ask2 v 0) ⟨S1, [], 0⟩ k) k).hi) ∧ (∀ j, ((ask2 v 0 (goes (ask2 v 0) ⟨S1, [], 0⟩ k) k).S.nd j).up = (S1.nd j).up) ∧ ∀ j, k + 1 ≤ j → (ask2 v 0 (goes (ask2 v 0) ⟨S1, [], 0⟩ k) k).S.nd j = S1.nd j
    generalize goes (ask2 v 0) ⟨S1, [], 0⟩ k = R at h1 h2 h3 ⊢
    unfold ask2
    by_cases hu : (R.S.nd k).up = false
    · rw [if_pos (.inl hu)]
      refine ⟨fun j hj hj' => ?_, h2, fun j hj => h3 j (by omega)⟩
      by_cases e : j = k
      · subst e; rw [← h2, hu] at hj'; cases hj'
      · exact h1 j (by omega) hj'
    · rw [if_neg (by simp [hu]), if_neg (by simp)]
      refine ⟨fun j hj hj' => ?_, fun j => ?_, fun j hj => ?_⟩
      · show ((accS R.S k v).nd j).A.p ≤ max R.hi ((R.S.nd k).A.accept v).p
        by_cases e : j = k
        · rw [e, accS_A]; omega
        · rw [accS_other _ _ _ e]
          have := h1 j (by omega) hj'
          omega
      · exact ((accS_same R.S k v j).2.1).trans (h2 j)
      · show (accS R.S k v).nd j = _
        rw [accS_other _ _ _ (by omega)]
        exact h3 j (by omega)
/-- Behind a proposal of which nothing was lost no promise is above the next ballot. -/
theorem clr_pro {S : Gp} {m : Nat} (h : LV S m) (hm : m ≤ 3000) {k : Nat} (hk : k < S.n) (hu : (S.nd k).up = true) {x : ByteArray} (hx : x.size ≤ 1024) : Clr (proS S k x 0) k := by
  have hE := refE_ok h (by omega) hk hu hx
  obtain ⟨hi, hd, hw⟩ := pro_ways hE 0
  have h' := h.pro k x 0
  have hk0 : ((k : Int)).toNat = k := by omega
  rw [hk0] at hd hw
  have hk' : k < (proS S k x 0).n := by rw [hd.n]; exact hk
  obtain ⟨eb, hB⟩ := bal_is h (by omega) hk
  obtain ⟨eb', hB'⟩ := bal_is h' (by omega) hk'
  have hle : ∀ j, j < S.n → (S.nd j).up = true → ((proS S k x 0).nd j).A.p ≤ hi := by
    intro j hj hju
    obtain ⟨a1, a2⟩ := heard1 S (balOf S k) (slotOf S k) S.n
    have b1 : ((rnd1 S k 0).S.nd j).A.p ≤ (rnd1 S k 0).hi := a1 j hj hju
    rcases hw with ⟨-, rfl, -, es⟩ | ⟨-, rfl, hw⟩
    · rw [es, setRd_nd]
      split
      · rename_i e; subst e; exact b1
      · exact b1
    · obtain ⟨c1, c2, -⟩ := heard2 (rnd1 S k 0).S (voteOf S k x 0) S.n
      have b2 : ((rnd2 S k x 0).S.nd j).A.p ≤ (rnd2 S k x 0).hi := c1 j hj (by
        show ((goes (ask1 (balOf S k) (slotOf S k) 0) ⟨S, [], 0⟩ S.n).S.nd j).up = true
        rw [a2]; exact hju)
      rcases hw with ⟨-, -, es⟩ | ⟨-, -, -, es⟩
      · rw [es, setRd_nd]
        split
        · rename_i e; subst e; show ((rnd2 S j x 0).S.nd j).A.p ≤ _; omega
        · omega
      · have hA : (((rnd2 S k x 0).S.push k (voteOf S k x 0).x).setRd k (nextR (balOf S k) (max (rnd1 S k 0).hi (rnd2 S k x 0).hi))).nd j = _ := setRd_nd _ _ _ _
        rw [es, hA]
        unfold Gp.push
        rw [set_nd, set_nd, if_pos rfl]
        split
        · rename_i e; subst e; show ((rnd2 S j x 0).S.nd j).A.p ≤ _; omega
        · rename_i e
          omega
  intro j hj hju
  rw [hd.n] at hj
  rw [hd.up] at hju
  have h1 := hle j hj hju
  rw [eb', hd.rdk]
  unfold nextR
  by_cases hBm : isB (max (balOf S k) hi)
  · unfold ownR
    rw [if_pos hBm]
    omega
  · exfalso
    apply hBm
    have hg : hi ≤ 1099511627776 := by
      rcases hd.hi with e | e | ⟨q, hq, e⟩
      · omega
      · rw [e]; exact hB.2
      · rw [e]; exact (h.inv.good q hq).p1
    unfold isB at hB ⊢
    omega
theorem cntP_eq {n : Nat} {p q : Nat → Bool} (h : ∀ j, j < n → p j = q j) : cntP n p = cntP n q := by
  apply Nat.le_antisymm
  · exact cntP_mono fun j hj hp => by rw [← h j hj]; exact hp
  · exact cntP_mono fun j hj hp => by rw [h j hj]; exact hp
theorem told2 (S1 : Gp) (v : V) (h : ∀ j, j < S1.n → (S1.nd j).up = true → accE (S1.nd j).A v = 0) : ∀ k, k ≤ S1.n → (goes (ask2 v 0) ⟨S1, [], 0⟩ k).told.length = cntP k fun j => (S1.nd j).up
  | 0, _ => rfl
  | k + 1, hk => by
    have ih := told2 S1 v h k (by omega)
    obtain ⟨-, -, h3⟩ := heard2 S1 v k
    have h4 := h3 k (Nat.le_refl _)
    rw [cntP_succ, ← ih]
    show (ask2 v 0 (goes (ask2 v 0) ⟨S1, [], 0⟩ k) k).told.length = _
    generalize goes (ask2 v 0) ⟨S1, [], 0⟩ k = R at h4 ⊢
    unfold ask2
    rw [h4]
    by_cases hu : (S1.nd k).up = true
    · rw [if_neg (by simp [hu]), if_neg (by simp), if_pos (h k (by omega) hu), if_pos hu]
      simp
    · have hu' : (S1.nd k).up = false := by simpa using hu
      rw [if_pos (.inl hu'), if_neg hu]
      rfl
theorem val_size {S : Gp} (h : ∀ j, j < S.n → (S.nd j).A.Good) (k L : Nat) {x : ByteArray} (hx : x.size ≤ 1024) : (voteOf S k x L).x.size ≤ 1024 := by
  show (valOf (rnd1 S k L).told (slotOf S k) x).size ≤ 1024
  unfold valOf
  split
  · rename_i v hv
    obtain ⟨hm, -⟩ := cho_mem hv
    obtain ⟨j, hj, -, hu⟩ := rnd1_told hm
    have hu' : v ∈ (S.nd j).A.l := (List.mem_filter.1 hu).1
    exact ((h j hj).ok v hu').2.2
  · exact hx
/-- With a majority up, and nothing lost, a proposal whose ballot is above all promises is chosen. -/
theorem pro_yes {S : Gp} {m : Nat} (h : LV S m) (hm : m ≤ 3000) {k : Nat} (hk : k < S.n) (hu : (S.nd k).up = true) {x : ByteArray} (hx : x.size ≤ 1024) (hc : Clr S k) (hM : S.n < 2 * cntP S.n fun j => (S.nd j).up) :
    (proE S k x 0).2.2 = 0 ∧ ∃ y, ((proS S k x 0).nd k).log = (S.nd k).log ++ [y] := by
  have hE := refE_ok h (by omega) hk hu hx
  obtain ⟨hi, hd, hw⟩ := pro_ways hE 0
  have hk0 : ((k : Int)).toNat = k := by omega
  rw [hk0] at hd hw
  obtain ⟨eb, hB⟩ := bal_is h (by omega) hk
  have t1 : (rnd1 S k 0).told.length = cntP S.n fun j => (S.nd j).up := by
    rw [rnd1_len]
    refine cntP_eq fun j hj => ?_
    unfold p1 h1
    simp only [Nat.zero_testBit, Bool.not_false, Bool.and_true]
    cases hju : (S.nd j).up with
    | false => rfl
    | true => rw [Bool.true_and]; exact decide_eq_true (prepE_zero.2 ⟨hB, hc j hj hju⟩)
  have hl := h.log k hk
  have t2 : (rnd2 S k x 0).told.length = cntP S.n fun j => (S.nd j).up := by
    have hn1 : (rnd1 S k 0).S.n = S.n := by rw [rnd1_S]
    have := told2 (rnd1 S k 0).S (voteOf S k x 0) (fun j hj hju => ?_) S.n (by rw [hn1]; exact Nat.le_refl _)
    · refine this.trans (cntP_eq fun j hj => ?_)
      rw [rnd1_S]; exact (nd1_same _ _ _ _ _).2.2
    · rw [hn1] at hj
      rw [rnd1_S] at hju ⊢
      have hju' : (S.nd j).up = true := by rw [← (nd1_same S (balOf S k) 0 S.n j).2.2]; exact hju
      show accE (nd1 S (balOf S k) 0 S.n j).A (voteOf S k x 0) = 0
      have hpe : prepE (S.nd j).A (balOf S k) = 0 := prepE_zero.2 ⟨hB, hc j hj hju'⟩
      have hp : (nd1 S (balOf S k) 0 S.n j).A.p = balOf S k := by
        unfold nd1
        rw [if_pos ⟨hj, by unfold h1; simp [hju']⟩]
        show ((S.nd j).A.prep (balOf S k)).p = _
        unfold Acc.prep
        rw [if_pos hpe]
      refine accE_zero.2 ⟨wrongE_zero.2 ⟨?_, ?_, hB, val_size h.inv.good k 0 hx⟩, ?_⟩
      · show (0 : Int) ≤ (((S.nd k).log.length : Nat) : Int); omega
      · show (((S.nd k).log.length : Nat) : Int) < 4096; omega
      · rw [hp]; exact Int.le_refl _
  rcases hw with ⟨w1, -⟩ | ⟨-, -, ⟨w1, -⟩ | ⟨-, ee, hlog, -⟩⟩
  · omega
  · omega
  · exact ⟨by rw [ee], _, hlog⟩
/-- Where no majority is up, a proposal is lost, and nothing is chosen by it. -/
theorem pro_few {S : Gp} {m : Nat} (h : LV S m) (hm : m ≤ 3000) {k : Nat} (hk : k < S.n) (hu : (S.nd k).up = true) {x : ByteArray} (hx : x.size ≤ 1024) (L : Nat) (hM : 2 * (cntP S.n fun j => (S.nd j).up) ≤ S.n) :
    proE S k x L = (0, ⟨#[]⟩, 110) ∧ ((proS S k x L).nd k).log = (S.nd k).log ∧ ∀ s, choOf (proS S k x L) s = choOf S s := by
  have hE := refE_ok h (by omega) hk hu hx
  obtain ⟨hi, hd, hw⟩ := pro_ways hE L
  have hk0 : ((k : Int)).toNat = k := by omega
  rw [hk0] at hd hw
  have t1 : (rnd1 S k L).told.length ≤ cntP S.n fun j => (S.nd j).up := by
    rw [rnd1_len]
    refine cntP_mono fun j hj hp => ?_
    unfold p1 h1 at hp
    simp only [Bool.and_eq_true] at hp
    exact hp.1.1.1
  rcases hw with ⟨-, -, ee, es⟩ | ⟨w1, -⟩
  · refine ⟨ee, ?_, fun s => ?_⟩
    · rw [es, setRd_nd, if_pos rfl, rnd1_S]; exact (nd1_same _ _ _ _ _).1
    · rw [es, rnd1_S]; rfl
  · omega
/-- What is chosen stays so. -/
theorem cho_stays {S S' : Gp} {f f' : Nat → Int} (h : Inv S f) (h' : Inv S' f') (hn : S'.n = S.n) (ha : ∀ j v, (j, v) ∈ S.all → (j, v) ∈ S'.all) {s : Int} {x : ByteArray} (hc : choOf S s = (x, true)) : choOf S' s = (x, true) := by
  by_cases hv : ∃ v, v.s = s ∧ Maj S.n S.all v
  · obtain ⟨v, rfl, hv⟩ := hv
    rw [h.chosen hv] at hc
    have hm : Maj S'.n S'.all v := by rw [hn]; exact hv.more fun j hj => ha j v hj
    rw [h'.chosen hm]; exact hc
  · rw [h.unchosen fun v hv1 hv2 => hv ⟨v, hv1, hv2⟩] at hc
    cases hc
theorem pro_all {S : Gp} (i : Int) (x : ByteArray) (L : Nat) : ∀ j v, (j, v) ∈ S.all → (j, v) ∈ (proS S i x L).all := fun j v hj => by
  by_cases hE : refE S i x = 0
  · obtain ⟨hi, hd, -⟩ := pro_ways hE L
    exact hd.all j v hj
  · rw [(pro_no hE L).2]; exact hj
end Go.Proofs.YtkcbmkedhipgeaaGreatDoor
