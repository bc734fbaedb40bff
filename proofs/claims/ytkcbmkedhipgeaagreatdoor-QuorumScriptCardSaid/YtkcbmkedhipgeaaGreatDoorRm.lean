/-
  A list of lists of votes in a row of its own, each list in one of its own; what stays while the program's group is called.

  The document's own group in memory; what of memory turns while it is called; has, Log, Set, bit, seen, by contracts.
-/
import Derived.Test.YtkcbmkedhipgeaaGreatDoorPq4
import Derived.Test.YtkcbmkedhipgeaaGreatDoorRg
namespace Go.Proofs.YtkcbmkedhipgeaaGreatDoor
open Go.RowKit Go.ChangeMaps

/-- A row of one-cell values, as one reads it. -/
theorem own_shape {w : World} {base : Nat} {e : TypeId} {v : Value} {n : Nat} {xs : List Value} (h : w.ownsRow base e 1 v n xs) :
    ∃ A c, v = .slice A n c ∧ (∀ g, v.ownBlock = some g → base ≤ g ∧ g < w.heap.size) ∧ ∀ i x, xs[i]? = some x → ∃ g, A = some ⟨g, 0, none⟩ ∧ w.cell? ⟨g, i, none⟩ = some x := by
  have hl := World.ownsRow.lt h
  have h' := h
  obtain ⟨h1, h2 | ⟨g, cap, cur, hv, hg, hh, r⟩⟩ := h
  · obtain ⟨rfl, rfl⟩ := h2
    refine ⟨none, 0, rfl, hl, fun i x hx => ?_⟩
    cases xs with
    | nil => simp at hx
    | cons x xs => simp at h1
  · subst hv
    refine ⟨some ⟨g, 0, none⟩, cap, rfl, hl, fun i x hx => ⟨g, rfl, ?_⟩⟩
    have := h'.cells (g := g) rfl i x hx
    have e : (⟨g, 0, none⟩ : Addr).add i = ⟨g, i, none⟩ := by
      by_cases hj : i = 0 <;> simp [Addr.add, hj]
    rw [e] at this; exact this
theorem ownsRow_kept {w w' : World} {base : Nat} {e : TypeId} {k : Nat} {v : Value} {n : Nat} {xs : List Value} (h : w.ownsRow base e k v n xs) (hb : ∀ g, v.ownBlock = some g → w'.heap[g]? = w.heap[g]?) : w'.ownsRow base e k v n xs := by
  refine ⟨h.1, ?_⟩
  rcases h.2 with hn | ⟨g, cap, cur, rfl, hbs, hgg, rest⟩
  · exact .inl hn
  · exact .inr ⟨g, cap, cur, rfl, hbs, by rw [hb g rfl]; exact hgg, rest⟩
theorem infoS : (Tryz.prog.info? 65).map (fun i => (i.zero, i.size, i.bytes)) = some (some (.slice none 0 0), 1, 24) := by kernel_rfl
theorem infoT : (Tryz.prog.info? 90).map (fun i => (i.zero, i.size, i.bytes)) = some (some (.slice none 0 0), 1, 24) := by kernel_rfl
/-- The lists T in a row: u; e: the votes' type, te: their lists'. -/
def Tld (e te : TypeId) (w : World) (base : Nat) (u : Value) (T : List (List V)) : Prop :=
  ∃ sv : Nat → Value, w.ownsRow base te 1 u T.length ((List.range T.length).map sv) ∧ ∀ j l, T[j]? = some l → OwnsV e w 0 (sv j) l
section
variable {e te : TypeId} {w w' : World} {base : Nat} {u : Value} {T : List (List V)}
theorem Tld.nil (w : World) (base : Nat) : Tld e te w base (.slice none 0 0) [] := ⟨fun _ => .slice none 0 0, World.ownsRow_nil _ _ _ _, fun j l h => by simp at h⟩
theorem Tld.lit (w : World) {base : Nat} (hb : base ≤ w.heap.size) : Tld e te (w.alloc (.cells #[] te)) base (.slice (some ⟨w.heap.size, 0, none⟩) 0 0) [] :=
  ⟨fun _ => .slice none 0 0, World.ownsRow_lit (base := base) (e := te) (size := 1) w #[] 0 hb (by simp) rfl, fun j l h => by simp at h⟩
theorem Tld.kept (h : Tld e te w base u T) (hk : ∀ (k : Nat) (cs : Array Value) (t : TypeId), t = e ∨ t = te → w.heap[k]? = some (Obj.cells cs t (0, 0)) → w'.heap[k]? = some (Obj.cells cs t (0, 0))) : Tld e te w' base u T := by
  obtain ⟨sv, h1, h2⟩ := h
  refine ⟨sv, ownsRow_kept h1 fun g hg => ?_, fun j l hl => (h2 j l hl).kept fun g hg => ?_⟩
  · obtain ⟨cur, hc⟩ := owns_type h1 hg
    rw [hc]; exact hk _ _ _ (.inr rfl) hc
  · obtain ⟨cur, hc⟩ := owns_type (h2 j l hl) hg
    rw [hc]; exact hk _ _ _ (.inl rfl) hc
theorem Tld.below (h : Tld e te w base u T) (hb : Below w.heap.size w w') : Tld e te w' base u T := h.kept fun k _ _ _ hk => (hb.block k (lt_of hk)).trans hk
theorem Tld.shape (h : Tld e te w base u T) : ∃ A c, u = .slice A T.length c := by
  obtain ⟨sv, h1, -⟩ := h
  obtain ⟨A, c, e, -⟩ := own_shape h1
  exact ⟨A, c, e⟩
theorem Tld.row (h : Tld e te w base u T) : ∃ xs, w.ownsRow base te 1 u T.length xs ∧ (∀ x ∈ xs, x.oneCell' = true) ∧
    ∀ (w' : World) (g cap : Nat) (v : Value) (l : List V), OwnsV e w 0 v l → w'.ownsRow base te 1 (.slice (some ⟨g, 0, none⟩) (T.length + 1) cap) (T.length + 1) (xs ++ [v]) → w.grownBy w' u.ownBlock → e ≠ te → Tld e te w' base (.slice (some ⟨g, 0, none⟩) (T.length + 1) cap) (T ++ [l]) := by
  obtain ⟨sv, h1, h2⟩ := h
  refine ⟨_, h1, fun x hx => ?_, fun w' g cap v l hv ho hg hne => ?_⟩
  · obtain ⟨j, hj, rfl⟩ := List.mem_map.1 hx
    obtain ⟨x, hx⟩ : ∃ x, T[j]? = some x := ⟨_, List.getElem?_eq_getElem (List.mem_range.1 hj)⟩
    obtain ⟨A, c, e, -⟩ := vshape (h2 j x hx)
    rw [e]; rfl
  · have hkeep : ∀ (x : Value) (l : List V), OwnsV e w 0 x l → OwnsV e w' 0 x l := fun x l hx => hx.grown hg fun q hq e => by
      obtain ⟨c1, h3⟩ := owns_type hx hq
      obtain ⟨c2, h4⟩ := owns_type h1 e.symm
      exact type_ne h3 h4 hne rfl
    refine ⟨fun j => if j = T.length then v else sv j, ?_, fun j y hy => ?_⟩
    · have e : (List.range (T ++ [l]).length).map (fun j => if j = T.length then v else sv j) = (List.range T.length).map sv ++ [v] := by
        rw [List.length_append, List.length_singleton, List.range_succ, List.map_append]
        congr 1
        · apply List.map_congr_left
          intro a ha
          have := List.mem_range.1 ha
          rw [if_neg (by omega)]
        · simp
      rw [e, List.length_append, List.length_singleton]
      exact ho
    · rw [List.getElem?_append] at hy
      split at hy
      · rename_i hj
        simp only [if_neg (show j ≠ T.length by omega)]
        exact hkeep _ _ (h2 j y hy)
      · rename_i hj
        obtain ⟨hlt, -⟩ := List.getElem?_eq_some_iff.1 hy
        simp at hlt
        obtain rfl : j = T.length := by omega
        simp at hy
        subst hy
        simp only [if_pos]
        exact hkeep _ _ hv
def adr : Value → Option Addr
  | .slice A _ _ => A
  | _ => none
def cpy : Value → Nat
  | .slice _ _ c => c
  | _ => 0
/-- The lengths, and the votes, of a list of lists. -/
def lenT (T : List (List V)) (j : Nat) : Nat := (T.getD j []).length
def votT (T : List (List V)) (j k : Nat) : V := (T.getD j []).getD k V.zero
theorem row_T (T : List (List V)) (j : Nat) : rowL (lenT T) (votT T) j = T.getD j [] := by
  apply List.ext_getElem?
  intro k
  unfold rowL
  rw [List.getElem?_map]
  by_cases hk : k < lenT T j
  · rw [List.getElem?_range hk]
    unfold lenT at hk
    show some ((T.getD j []).getD k V.zero) = (T.getD j [])[k]?
    generalize T.getD j [] = l at hk ⊢
    rw [List.getD_eq_getElem?_getD, List.getElem?_eq_getElem hk]; rfl
  · rw [List.getElem?_eq_none (by simpa using hk), List.getElem?_eq_none (by unfold lenT at hk; omega)]; rfl
theorem cat_T (T : List (List V)) : cat (lenT T) (votT T) T.length = T.flatten := by
  unfold cat
  have : (List.range T.length).map (rowL (lenT T) (votT T)) = T := by
    apply List.ext_getElem?
    intro k
    rw [List.getElem?_map]
    by_cases hk : k < T.length
    · rw [List.getElem?_range hk, Option.map_some, row_T, List.getElem?_eq_getElem hk, List.getD_eq_getElem?_getD, List.getElem?_eq_getElem hk]; rfl
    · rw [List.getElem?_eq_none (by simpa using hk), List.getElem?_eq_none (by omega)]; rfl
  rw [List.flatMap_def, this]
theorem Tld.sets (h : Tld e te w base u T) (hL : ∀ l ∈ T, l.length ≤ 100000) : ∃ A c B C, u = .slice A T.length c ∧ Sets w A T.length B (lenT T) C (votT T) := by
  obtain ⟨sv, h1, h2⟩ := h
  obtain ⟨A, c, rfl, hlt, hrow⟩ := own_shape h1
  have hat : ∀ i, i < T.length → ∃ l, T[i]? = some l ∧ T.getD i [] = l := fun i hi => ⟨T[i], List.getElem?_eq_getElem hi, by rw [List.getD_eq_getElem?_getD, List.getElem?_eq_getElem hi]; rfl⟩
  refine ⟨A, c, fun j => adr (sv j), fun j => cpy (sv j), rfl, fun i hi => ?_⟩
  obtain ⟨l, hl, hd⟩ := hat i hi
  have hll : lenT T i = l.length := by unfold lenT; rw [hd]
  obtain ⟨A', c', ev, hm⟩ := vshape (h2 i l hl)
  refine ⟨?_, ?_, fun k hk => ?_⟩
  · obtain ⟨g, rfl, hc⟩ := hrow i (sv i) (by rw [List.getElem?_map, List.getElem?_range hi]; rfl)
    refine ⟨g, 0, rfl, (hlt g rfl).2, ?_⟩
    rw [Nat.zero_add, hc]
    show some (sv i) = some (Value.slice (adr (sv i)) (lenT T i) (cpy (sv i)))
    rw [ev, hll]; rfl
  · rw [hll]; have := hL l (List.mem_of_getElem? hl); omega
  · have hv : l[k]? = some (votT T i k) := by
      unfold votT
      rw [hd, List.getD_eq_getElem?_getD, List.getElem?_eq_getElem (by omega)]; rfl
    obtain ⟨g, hA, hg, hv⟩ := hm k _ hv
    exact ⟨g, 0, by show adr (sv i) = _; rw [ev]; exact hA, hg, by rw [Nat.zero_add]; exact hv⟩
end
/-- A block of another type stays while the program's group is called. -/
theorem PT.cells {n : Nat} {P P' : Pl} {w w' : World} {g : Nat} {S : Gp} (h : PT n P P' w w') (hP : PG w g S P) (hn : S.n = n) {k : Nat} {cs : Array Value} {t : TypeId} (hk : w.heap[k]? = some (Obj.cells cs t (0, 0))) (ht : t ≠ 62 ∧ t ≠ 103 ∧ t ≠ 9) : w'.heap[k]? = some (Obj.cells cs t (0, 0)) :=
  h.chg.keep hk fun hp => by
    rcases hp.2 with hp | hp | hp
    · simp only [isTy, List.mem_cons, List.not_mem_nil, or_false] at hp
      rcases hp with e | e
      · exact ht.1 e
      · exact ht.2.1 e
    · exact hp
    · subst hn
      obtain ⟨cur, h1⟩ := hP.F_ty hp
      rw [hk] at h1
      injection h1 with h1
      injection h1 with _ h2
      exact ht.2.2 h2
end Go.Proofs.YtkcbmkedhipgeaaGreatDoor

namespace Go.Proofs.YtkcbmkedhipgeaaGreatDoor
open Go.RowKit Go.ChangeMaps

/-! ### all votes that were given, in a row -/
def dcs (d : Nat × V) : List Value := [.int .i64 (d.1 : Int), .int .i64 d.2.s, .int .i64 d.2.b, .string d.2.x]
def dflat (l : List (Nat × V)) : List Value := l.flatMap dcs
theorem dflat_len (l : List (Nat × V)) : (dflat l).length = l.length * 4 := by
  induction l with
  | nil => rfl
  | cons d l ih =>
    unfold dflat at ih ⊢
    rw [List.flatMap_cons, List.length_append, ih, List.length_cons]
    show 4 + _ = _
    omega
theorem dflat_more (l : List (Nat × V)) (d : Nat × V) : dflat l ++ dcs d = dflat (l ++ [d]) := by unfold dflat; rw [List.flatMap_append]; simp
theorem dflat_one (l : List (Nat × V)) : ∀ u ∈ dflat l, u.oneCell' = true := fun u hu => by
  obtain ⟨d, -, h⟩ := List.mem_flatMap.1 hu
  simp [dcs] at h
  rcases h with rfl | rfl | rfl | rfl <;> rfl
theorem dflat_get (l : List (Nat × V)) (i : Nat) (d : Nat × V) (h : l[i]? = some d) (j : Nat) (hj : j < 4) : (dflat l)[i * 4 + j]? = (dcs d)[j]? := by
  induction l generalizing i with
  | nil => simp at h
  | cons x l ih =>
    have hx : (dcs x).length = 4 := rfl
    have e : dflat (x :: l) = dcs x ++ dflat l := by unfold dflat; rw [List.flatMap_cons]
    rw [e]
    cases i with
    | zero =>
      simp at h
      subst h
      rw [List.getElem?_append_left (by omega)]
      congr 1; omega
    | succ i =>
      simp at h
      rw [List.getElem?_append_right (by omega), hx, show (i + 1) * 4 + j - 4 = i * 4 + j by omega]
      exact ih i h
def OwnsD (w : World) (base : Nat) (v : Value) (l : List (Nat × V)) : Prop := w.ownsRow base 80 4 v l.length (dflat l)
/-- What it looks like. -/
theorem OwnsD.form {w : World} {base : Nat} {v : Value} {l : List (Nat × V)} (h : OwnsD w base v l) : ∃ A c, v = .slice A l.length c ∧ ∀ i d, l[i]? = some d → ∃ g, A = some ⟨g, 0, none⟩ ∧ g < w.heap.size ∧ ∀ j, j < 4 → w.cell? ⟨g, i * 4 + j, none⟩ = (dcs d)[j]? := by
  have h' := h
  rcases h'.2 with ⟨hv, h0⟩ | ⟨g, cap, cur, hv, hb, hg, hn, hm, hs, ht⟩
  · have : l = [] := List.length_eq_zero_iff.1 h0
    subst this
    exact ⟨none, 0, hv, fun i x hx => by simp at hx⟩
  · refine ⟨_, cap, hv, fun i d hx => ⟨g, rfl, lt_of hg, fun j hj => ?_⟩⟩
    have hil : i < l.length := (List.getElem?_eq_some_iff.1 hx).1
    rw [cell_of_row w g (i * 4 + j) cur _ (0, 0) hg, ← dflat_get l i d hx j hj, ← ht, List.getElem?_take, if_pos (by omega)]
    simp

/-! ### the group -/
structure Ql where
  B : Nat
  nb : Nat
  cap : Nat
  nds : Nat → Nat
  ac : Nat → Nat
  lr : Nat → Value
  al : Value
def rnodeC (Q : Ql) (i : Nat) (x : Nd) : Array Value := #[.bool x.up, .pointer (some ⟨Q.ac i, 0, none⟩), Q.lr i, .int .i64 x.rd]
structure RN (w : World) (Q : Ql) (i : Nat) (x : Nd) : Prop where
  cs : w.heap[Q.nds i]? = some (.cells (rnodeC Q i x) 69 (0, 0))
  acc : RC w (Q.ac i) x.A.p x.A.l
  good : x.A.Good
  log : OwnsS w Q.B (Q.lr i) x.log
  lo : Q.B ≤ Q.nds i
  loA : Q.B ≤ Q.ac i
structure RG (w : World) (r : Nat) (S : Gp) (Q : Ql) : Prop where
  grp : w.heap[r]? = some (.cells #[.slice (some ⟨Q.nb, 0, none⟩) S.n Q.cap, Q.al] 33 (0, 0))
  row : ∃ cs, w.heap[Q.nb]? = some (.cells cs 63 (0, 0)) ∧ ∀ i, i < S.n → cs[i]? = some (.pointer (some ⟨Q.nds i, 0, none⟩))
  nd : ∀ i, i < S.n → RN w Q i (S.nd i)
  ndsNe : ∀ i j, i < S.n → j < S.n → i ≠ j → Q.nds i ≠ Q.nds j
  acNe : ∀ i j, i < S.n → j < S.n → i ≠ j → Q.ac i ≠ Q.ac j
  all : OwnsD w Q.B Q.al S.all
  lo : Q.B ≤ r
/-- What may turn of memory while it is called. -/
def pR (B k : Nat) (o : Obj) : Prop := B ≤ k ∧ isTy [33, 69, 67, 80] o
/-- What it is made of. -/
def mR (Q : Ql) (n k : Nat) (o : Obj) : Prop := isTy [33, 63, 69, 67, 78, 80] o ∨ ∃ i, i < n ∧ (Q.lr i).ownBlock = some k
/-- What a call leaves of the places, and of memory. -/
structure RT (n : Nat) (Q Q' : Ql) (w w' : World) : Prop where
  chg : Chg (pR Q.B) w w'
  new : ∀ i, i < n → ∀ b, (Q'.lr i).ownBlock = some b → (∃ j, j < n ∧ (Q.lr j).ownBlock = some b) ∨ w.heap.size ≤ b
  fix : Q'.nb = Q.nb ∧ Q'.cap = Q.cap ∧ Q'.nds = Q.nds ∧ Q'.ac = Q.ac ∧ Q'.B = Q.B
section
variable {w w' : World} {r : Nat} {S : Gp} {Q : Ql}
theorem RT.of_below {n : Nat} (h : Below w.heap.size w w') : RT n Q Q w w' := ⟨Chg.of_below h, fun i hi _ hb => .inl ⟨i, hi, hb⟩, rfl, rfl, rfl, rfl, rfl⟩
theorem RT.trans {n : Nat} {Q Q1 Q2 : Ql} {w w1 w2 : World} (h : RT n Q Q1 w w1) (h' : RT n Q1 Q2 w1 w2) : RT n Q Q2 w w2 := by
  refine ⟨h.chg.trans h'.chg fun k o hk hp => ⟨by rw [← h.fix.2.2.2.2]; exact hp.1, hp.2⟩, fun i hi b hb => ?_, h'.fix.1.trans h.fix.1, h'.fix.2.1.trans h.fix.2.1, h'.fix.2.2.1.trans h.fix.2.2.1, h'.fix.2.2.2.1.trans h.fix.2.2.2.1, h'.fix.2.2.2.2.trans h.fix.2.2.2.2⟩
  rcases h'.new i hi b hb with ⟨j, hj, hb⟩ | hb
  · exact h.new j hj b hb
  · right; exact Nat.le_trans h.chg.size hb
theorem RT.under {n : Nat} {Q' : Ql} (h : RT n Q Q' w w') (hB : Q.B ≤ w.heap.size) : Below Q.B w w' := h.chg.below' (fun k _ hk hp => by have := hp.1; omega) hB
theorem RC.keptTy {a : Nat} {p : Int} {l : List V} (h : RC w a p l) (hk : ∀ (k : Nat) (cs : Array Value) (t : TypeId) (f : Nat × Nat), w.heap[k]? = some (Obj.cells cs t f) → t ∈ [67, 78] → w'.heap[k]? = some (Obj.cells cs t f)) : RC w' a p l := by
  obtain ⟨sv, h1, h2⟩ := h
  refine ⟨sv, h1.of_block ?_, h2.kept fun b hb => ?_⟩
  · obtain ⟨cs, hc, -⟩ := h1
    rw [hc]; exact hk _ _ _ _ hc (by simp)
  · obtain ⟨cur, hc⟩ := owns_type h2 hb
    rw [hc]; exact hk _ _ _ _ hc (by simp)
theorem RC.ty {a : Nat} {p : Int} {l : List V} (h : RC w a p l) : ∃ cs, w.heap[a]? = some (.cells cs 67 (0, 0)) := by
  obtain ⟨f, cs, h1, -⟩ := h.row
  exact ⟨cs, h1⟩
theorem RN.keep {i n : Nat} {x : Nd} (h : RN w Q i x) (hi : i < n) (hk : ∀ k o, w.heap[k]? = some o → mR Q n k o → w'.heap[k]? = some o) : RN w' Q i x :=
  ⟨hk _ _ h.cs (.inl (by simp [isTy])), h.acc.keptTy fun k cs t f hc ht => hk _ _ hc (.inl (by simp only [isTy]; simp at ht ⊢; rcases ht with e | e <;> simp [e])), h.good,
    h.log.kept fun b hb => by
      obtain ⟨cur, h1⟩ := h.log.ty hb
      rw [h1]; exact hk _ _ h1 (.inr ⟨i, hi, hb⟩), h.lo, h.loA⟩
theorem RG.keep (h : RG w r S Q) (hk : ∀ k o, w.heap[k]? = some o → mR Q S.n k o → w'.heap[k]? = some o) : RG w' r S Q := by
  obtain ⟨cs, h1, h2⟩ := h.row
  refine ⟨hk _ _ h.grp (.inl (by simp [isTy])), ⟨cs, hk _ _ h1 (.inl (by simp [isTy])), h2⟩, fun i hi => (h.nd i hi).keep hi hk, h.ndsNe, h.acNe, ownsRow_kept h.all fun b hb => ?_, h.lo⟩
  obtain ⟨cur, hc⟩ := owns_type h.all hb
  rw [hc]; exact hk _ _ hc (.inl (by simp [isTy]))
theorem RG.below (h : RG w r S Q) (hb : Below w.heap.size w w') : RG w' r S Q := h.keep fun k _ hk _ => (hb.block k (lt_of hk)).trans hk
theorem RG.c0 (h : RG w r S Q) : w.cell? ⟨r, 0, none⟩ = some (.slice (some ⟨Q.nb, 0, none⟩) S.n Q.cap) := by rw [cell_at h.grp]; rfl
theorem RG.c1 (h : RG w r S Q) : w.cell? ⟨r, 1, none⟩ = some Q.al := by rw [cell_at h.grp]; rfl
theorem RG.nodeAt (h : RG w r S Q) {i : Nat} (hi : i < S.n) : w.cell? ⟨Q.nb, i, none⟩ = some (.pointer (some ⟨Q.nds i, 0, none⟩)) := by
  obtain ⟨cs, h1, h2⟩ := h.row
  rw [cell_at h1]; exact h2 i hi
theorem RN.c0 {i : Nat} {x : Nd} (h : RN w Q i x) : w.cell? ⟨Q.nds i, 0, none⟩ = some (.bool x.up) := by rw [cell_at h.cs]; rfl
theorem RN.c1 {i : Nat} {x : Nd} (h : RN w Q i x) : w.cell? ⟨Q.nds i, 1, none⟩ = some (.pointer (some ⟨Q.ac i, 0, none⟩)) := by rw [cell_at h.cs]; rfl
theorem RN.c2 {i : Nat} {x : Nd} (h : RN w Q i x) : w.cell? ⟨Q.nds i, 2, none⟩ = some (Q.lr i) := by rw [cell_at h.cs]; rfl
theorem RN.c3 {i : Nat} {x : Nd} (h : RN w Q i x) : w.cell? ⟨Q.nds i, 3, none⟩ = some (.int .i64 x.rd) := by rw [cell_at h.cs]; rfl
end
/-- One node has turned. -/
theorem RG.node {w w' : World} {r i : Nat} {S : Gp} {Q Q' : Ql} {x' : Nd} (h : RG w r S Q) (hi : i < S.n) (hc : Chg (fun b _ => b = Q.nds i) w w') (hN : RN w' Q' i x')
    (hf : Q'.nb = Q.nb ∧ Q'.cap = Q.cap ∧ Q'.nds = Q.nds ∧ Q'.ac = Q.ac ∧ Q'.B = Q.B ∧ Q'.al = Q.al) (ho : ∀ j, j ≠ i → Q'.lr j = Q.lr j) : RG w' r (S.set i x') Q' := by
  obtain ⟨f1, f2, f3, f4, f5, f6⟩ := hf
  have hNi := h.nd i hi
  have hk : ∀ (k : Nat) (cs : Array Value) (t : TypeId) (f : Nat × Nat), t ≠ 69 → w.heap[k]? = some (Obj.cells cs t f) → w'.heap[k]? = some (Obj.cells cs t f) := fun k cs t f ht hk => hc.keep hk fun e => by
    have e' : k = Q.nds i := e
    rw [e', hNi.cs] at hk
    injection hk with hk
    injection hk with _ h2
    exact ht h2.symm
  have hnd : ∀ j, (S.set i x').nd j = if j = i then x' else S.nd j := fun j => rfl
  obtain ⟨cs, h1, h2⟩ := h.row
  refine ⟨?_, ⟨cs, ?_, ?_⟩, fun j hj => ?_, ?_, ?_, ?_, ?_⟩
  · rw [f1, f2, f6]; exact hk _ _ _ _ (by decide) h.grp
  · rw [f1]; exact hk _ _ _ _ (by decide) h1
  · rw [f3]; exact h2
  · rw [hnd]
    by_cases e : j = i
    · rw [if_pos e, e]; exact hN
    · rw [if_neg e]
      have hNj := h.nd j hj
      have hcs : rnodeC Q' j (S.nd j) = rnodeC Q j (S.nd j) := by unfold rnodeC; rw [f4, ho j e]
      refine ⟨?_, ?_, hNj.good, ?_, ?_, ?_⟩
      · rw [f3, hcs]; exact hc.keep hNj.cs fun e' => h.ndsNe j i hj hi e e'
      · rw [f4]
        refine hNj.acc.keptTy fun b cs t f hb ht => hk b cs t f ?_ hb
        have ht' : t = 67 ∨ t = 78 := by simpa using ht
        rcases ht' with e5 | e5 <;> (rw [e5]; decide)
      · rw [ho j e, f5]
        refine hNj.log.kept fun b hb => ?_
        obtain ⟨cur, h3⟩ := hNj.log.ty hb
        rw [h3]; exact hk _ _ _ _ (by decide) h3
      · rw [f5, f3]; exact hNj.lo
      · rw [f5, f4]; exact hNj.loA
  · rw [f3]; exact h.ndsNe
  · rw [f4]; exact h.acNe
  · rw [f5, f6]
    refine ownsRow_kept h.all fun b hb => ?_
    obtain ⟨cur, hc'⟩ := owns_type h.all hb
    rw [hc']; exact hk _ _ _ _ (by decide) hc'
  · rw [f5]; exact h.lo
end Go.Proofs.YtkcbmkedhipgeaaGreatDoor
