/-
  A shelf as plain data: of each sector the block that lies in it; what Open finds, what Put and Drop answer and leave.
-/
import Derived.Test.YtmmpknfkncgjpaaGreatDoorM19
namespace Go.Proofs.YtmmpknfkncgjpaaGreatDoor
open Go.RowKit Go.PlainAid

abbrev Lay := List (Option Bk)
def hasId (id : Int) : Option Bk → Bool
  | some b => decide (b.id = id)
  | none => false
theorem hasId_some {id : Int} {o : Option Bk} (h : hasId id o = true) : ∃ b, o = some b ∧ b.id = id := by
  cases o with
  | none => cases h
  | some b => exact ⟨b, rfl, by simpa [hasId] using h⟩
/-- b lies in the sector i. -/
def At (L : Lay) (i : Nat) (b : Bk) : Prop := L[i]? = some (some b)
theorem At.lt {L : Lay} {i : Nat} {b : Bk} (h : At L i b) : i < L.length := (List.getElem?_eq_some_iff.1 h).1
theorem At.fn {L : Lay} {i : Nat} {b c : Bk} (h : At L i b) (k : At L i c) : b = c := by unfold At at h k; rw [h] at k; simpa using k
structure GoodL (L : Lay) : Prop where
  hi : L.length ≤ 128
  ok : ∀ i b, At L i b → refE b 1 = 0
  un : ∀ i j b c, At L i b → At L j c → b.id = c.id → i = j
theorem GoodL.eq {L : Lay} (h : GoodL L) {i j : Nat} {b c : Bk} (hb : At L i b) (hc : At L j c) (e : b.id = c.id) : b = c := by
  obtain rfl := h.un i j b c hb hc e; exact hb.fn hc
/-- The sector of a block. -/
def atL (L : Lay) (id : Int) : Option Nat := L.findIdx? (hasId id)
def getL (L : Lay) (id : Int) : Option Bk := (L.find? (hasId id)).join
theorem getL_some {L : Lay} {id : Int} {b : Bk} (h : getL L id = some b) : (∃ i, At L i b) ∧ b.id = id := by
  unfold getL at h
  obtain ⟨o, h1, h2⟩ : ∃ o, L.find? (hasId id) = some o ∧ o = some b := by
    cases hf : L.find? (hasId id) with
    | none => rw [hf] at h; cases h
    | some o => rw [hf] at h; exact ⟨o, rfl, h⟩
  subst h2
  obtain ⟨i, hi⟩ := List.getElem?_of_mem (List.mem_of_find?_eq_some h1)
  exact ⟨⟨i, hi⟩, by have := List.find?_some h1; simpa [hasId] using this⟩
theorem getL_none {L : Lay} {id : Int} (h : getL L id = none) : ∀ i b, At L i b → b.id ≠ id := by
  intro i b hb e
  unfold getL at h
  cases hf : L.find? (hasId id) with
  | none =>
    have := List.find?_eq_none.1 hf (some b) (List.mem_of_getElem? hb)
    simp [hasId, e] at this
  | some o =>
    rw [hf] at h
    obtain ⟨c, rfl, -⟩ := hasId_some (List.find?_some hf)
    cases h
theorem getL_at {L : Lay} (hG : GoodL L) {i : Nat} {b : Bk} (hb : At L i b) : getL L b.id = some b := by
  cases h : getL L b.id with
  | none => exact absurd rfl (getL_none h i b hb)
  | some c =>
    obtain ⟨⟨j, hj⟩, e⟩ := getL_some h
    rw [hG.eq hj hb e]
theorem getL_of_none {L : Lay} {id : Int} (h : ∀ i b, At L i b → b.id ≠ id) : getL L id = none := by
  cases hf : getL L id with
  | none => rfl
  | some c => obtain ⟨⟨j, hj⟩, e⟩ := getL_some hf; exact absurd e (h j c hj)
theorem getL_iff {L : Lay} (hG : GoodL L) {id : Int} {b : Bk} : getL L id = some b ↔ (∃ i, At L i b) ∧ b.id = id :=
  ⟨getL_some, fun ⟨⟨_, hi⟩, e⟩ => e ▸ getL_at hG hi⟩
theorem atL_some {L : Lay} {id : Int} {i : Nat} (h : atL L id = some i) : ∃ b, At L i b ∧ b.id = id ∧ ∀ j b, j < i → At L j b → b.id ≠ id := by
  unfold atL at h
  rw [List.findIdx?_eq_some_iff_getElem] at h
  obtain ⟨hi, h1, h2⟩ := h
  obtain ⟨b, hb, e⟩ := hasId_some h1
  refine ⟨b, ?_, e, fun j c hj hc ec => ?_⟩
  · unfold At; rw [List.getElem?_eq_getElem hi, hb]
  · have := h2 j hj
    have hjl : j < L.length := by omega
    unfold At at hc
    rw [List.getElem?_eq_getElem hjl] at hc
    rw [Option.some.inj hc] at this
    simp [hasId, ec] at this
theorem atL_none {L : Lay} {id : Int} (h : atL L id = none) : ∀ i b, At L i b → b.id ≠ id := by
  unfold atL at h
  rw [List.findIdx?_eq_none_iff] at h
  intro i b hb e
  have := h (some b) (List.mem_of_getElem? hb)
  simp [hasId, e] at this
theorem atL_of {L : Lay} (hG : GoodL L) {i : Nat} {b : Bk} (hb : At L i b) : atL L b.id = some i := by
  cases h : atL L b.id with
  | none => exact absurd rfl (atL_none h i b hb)
  | some j => obtain ⟨c, hc, e, -⟩ := atL_some h; rw [hG.un j i c b hc hb e]
theorem atL_of_none {L : Lay} {id : Int} (h : ∀ i b, At L i b → b.id ≠ id) : atL L id = none := by
  cases hf : atL L id with
  | none => rfl
  | some i => obtain ⟨b, hb, e, -⟩ := atL_some hf; exact absurd e (h i b hb)
theorem get_at {L : Lay} {id : Int} : (getL L id).isSome = (atL L id).isSome := by
  cases h : atL L id with
  | none => rw [getL_of_none (atL_none h)]; rfl
  | some i =>
    obtain ⟨b, hb, e, -⟩ := atL_some h
    cases hg : getL L id with
    | none => exact absurd e (getL_none hg i b hb)
    | some c => rfl

/-- Without the block of that number. -/
def woL (L : Lay) (id : Int) : Lay := L.map fun o => if hasId id o then none else o
theorem woL_length (L : Lay) (id : Int) : (woL L id).length = L.length := by simp [woL]
theorem at_wo {L : Lay} {id : Int} {i : Nat} {b : Bk} : At (woL L id) i b ↔ At L i b ∧ b.id ≠ id := by
  unfold At woL
  rw [List.getElem?_map]
  cases h : L[i]? with
  | none => simp
  | some o =>
    cases o with
    | none => simp [hasId]
    | some c =>
      by_cases e : c.id = id
      · simp [hasId, e]; intro h; rw [← h]; exact e
      · simp [hasId, e]; intro h; rw [← h]; exact e
theorem GoodL.wo {L : Lay} (h : GoodL L) (id : Int) : GoodL (woL L id) :=
  ⟨by rw [woL_length]; exact h.hi, fun i b hb => h.ok i b (at_wo.1 hb).1, fun i j b c hb hc => h.un i j b c (at_wo.1 hb).1 (at_wo.1 hc).1⟩
theorem woL_self {L : Lay} {id : Int} (h : getL L id = none) : woL L id = L := by
  apply List.ext_getElem?
  intro i
  unfold woL
  rw [List.getElem?_map]
  cases hi : L[i]? with
  | none => rfl
  | some o =>
    cases o with
    | none => rfl
    | some c =>
      have := getL_none h i c hi
      simp [hasId, this]
def newer (L : Lay) (b : Bk) : Bool := match getL L b.id with
  | none => true
  | some c => decide (c.ver < b.ver)
theorem newer_iff {L : Lay} (hG : GoodL L) {b : Bk} : newer L b = true ↔ ∀ i c, At L i c → c.id = b.id → c.ver < b.ver := by
  unfold newer
  cases h : getL L b.id with
  | none => exact ⟨fun _ i c hc e => absurd e (getL_none h i c hc), fun _ => rfl⟩
  | some d =>
    obtain ⟨⟨j, hj⟩, e⟩ := getL_some h
    simp only [decide_eq_true_eq]
    exact ⟨fun hd i c hc ec => (hG.eq hc hj (ec.trans e.symm)) ▸ hd, fun hd => hd j d hj e⟩
/-- b lies in the sector i now. -/
def putL (L : Lay) (i : Nat) (b : Bk) : Lay := (woL L b.id).set i (some b)
theorem putL_length (L : Lay) (i : Nat) (b : Bk) : (putL L i b).length = L.length := by simp [putL, woL_length]
theorem at_put {L : Lay} {i j : Nat} {b c : Bk} (hi : i < L.length) : At (putL L i b) j c ↔ (j = i ∧ c = b) ∨ (j ≠ i ∧ At L j c ∧ c.id ≠ b.id) := by
  unfold putL At
  rw [List.getElem?_set]
  by_cases e : i = j
  · subst e
    rw [if_pos rfl, if_pos (by rw [woL_length]; exact hi)]
    refine ⟨fun h => .inl ⟨rfl, (Option.some.inj (Option.some.inj h)).symm⟩, fun h => ?_⟩
    rcases h with ⟨_, h⟩ | ⟨h, _⟩
    · rw [h]
    · exact absurd rfl h
  · rw [if_neg e]
    have := at_wo (L := L) (id := b.id) (i := j) (b := c)
    unfold At at this
    rw [this]
    exact ⟨fun h => .inr ⟨fun h => e h.symm, h⟩, fun h => by rcases h with ⟨h, _⟩ | ⟨_, h⟩; (exact absurd h.symm e); (exact h)⟩
theorem GoodL.put {L : Lay} (h : GoodL L) {i : Nat} (hi : i < L.length) {b : Bk} (hb : refE b 1 = 0) : GoodL (putL L i b) := by
  refine ⟨by rw [putL_length]; exact h.hi, fun j c hc => ?_, fun j k c d hc hd e => ?_⟩
  · rcases (at_put hi).1 hc with ⟨_, rfl⟩ | ⟨_, hc, _⟩
    · exact hb
    · exact h.ok j c hc
  · rcases (at_put hi).1 hc with ⟨rfl, rfl⟩ | ⟨_, hc, n1⟩ <;> rcases (at_put hi).1 hd with ⟨rfl, rfl⟩ | ⟨_, hd, n2⟩
    · rfl
    · exact absurd e.symm n2
    · exact absurd e n1
    · exact h.un j k c d hc hd e
/-- The sector i is free. -/
def Fre (L : Lay) (i : Nat) : Prop := L[i]? = some none
theorem Fre.lt {L : Lay} {i : Nat} (h : Fre L i) : i < L.length := (List.getElem?_eq_some_iff.1 h).1
theorem Fre.not {L : Lay} {i : Nat} (h : Fre L i) {b : Bk} (hb : At L i b) : False := by unfold Fre at h; unfold At at hb; rw [h] at hb; cases hb
theorem getL_put {L : Lay} (hG : GoodL L) {i : Nat} (hi : Fre L i) {b : Bk} (hb : refE b 1 = 0) (id : Int) : getL (putL L i b) id = if id = b.id then some b else getL L id := by
  have hP := hG.put hi.lt hb
  by_cases e : id = b.id
  · subst e
    rw [if_pos rfl]
    exact getL_at hP (i := i) ((at_put hi.lt).2 (.inl ⟨rfl, rfl⟩))
  · rw [if_neg e]
    cases h : getL L id with
    | none =>
      refine getL_of_none fun j c hc => ?_
      rcases (at_put hi.lt).1 hc with ⟨_, rfl⟩ | ⟨_, hc, _⟩
      · exact fun h => e h.symm
      · exact getL_none h j c hc
    | some c =>
      obtain ⟨⟨j, hj⟩, rfl⟩ := getL_some h
      exact getL_at hP (i := j) ((at_put hi.lt).2 (.inr ⟨fun hji => hi.not (hji ▸ hj), hj, e⟩))
theorem getL_wo {L : Lay} (hG : GoodL L) (id id' : Int) : getL (woL L id) id' = if id' = id then none else getL L id' := by
  by_cases e : id' = id
  · subst e
    rw [if_pos rfl]
    exact getL_of_none fun i b hb => (at_wo.1 hb).2
  · rw [if_neg e]
    cases h : getL L id' with
    | none => exact getL_of_none fun i b hb => getL_none h i b (at_wo.1 hb).1
    | some c =>
      obtain ⟨⟨j, hj⟩, rfl⟩ := getL_some h
      exact getL_at (hG.wo id) (i := j) (at_wo.2 ⟨hj, e⟩)

/-! ### how many, and in which order -/
def cnt (L : Lay) : Nat := L.countP Option.isSome
theorem cnt_le (L : Lay) : cnt L ≤ L.length := List.countP_le_length
def low (L : Lay) : Nat := L.findIdx Option.isNone
theorem low_le (L : Lay) : low L ≤ L.length := List.findIdx_le_length
theorem low_free {L : Lay} (h : low L < L.length) : Fre L (low L) := by
  have := List.findIdx_getElem (xs := L) (p := Option.isNone) (w := h)
  unfold Fre
  rw [List.getElem?_eq_getElem h]
  exact congrArg some (Option.isNone_iff_eq_none.1 this)
theorem low_before {L : Lay} {i : Nat} (h : i < low L) : ∃ b, At L i b := by
  have h1 := List.not_of_lt_findIdx (p := Option.isNone) (xs := L) h
  have hl : i < L.length := Nat.lt_of_lt_of_le h (low_le L)
  unfold At
  rw [List.getElem?_eq_getElem hl]
  cases hx : L[i] with
  | none => rw [hx] at h1; simp at h1
  | some b => exact ⟨b, rfl⟩
theorem cnt_full {L : Lay} : cnt L = L.length ↔ low L = L.length := by
  unfold cnt low
  rw [List.countP_eq_length, List.findIdx_eq_length]
  constructor
  · intro h x hx; have h3 := h x hx; revert h3; cases x <;> simp
  · intro h x hx; have h3 := h x hx; revert h3; cases x <;> simp
theorem cnt_set {L : Lay} : ∀ {i : Nat}, Fre L i → ∀ b : Bk, cnt (L.set i (some b)) = cnt L + 1 := by
  induction L with
  | nil => intro i h; simp [Fre] at h
  | cons o L ih =>
    intro i h b
    cases i with
    | zero =>
      simp [Fre] at h; subst h
      simp [cnt]
    | succ i =>
      have h' : Fre L i := by simpa [Fre] using h
      have := ih h' b
      unfold cnt at this ⊢
      rw [List.set_cons_succ, List.countP_cons, List.countP_cons, this]; omega
theorem cnt_wo {L : Lay} (hu : ∀ i j b c, At L i b → At L j c → b.id = c.id → i = j) (id : Int) : cnt (woL L id) + (if (getL L id).isSome then 1 else 0) = cnt L := by
  induction L with
  | nil => rfl
  | cons o L ih =>
    have hu' : ∀ i j b c, At L i b → At L j c → b.id = c.id → i = j := fun i j b c hb hc e => by
      have := hu (i + 1) (j + 1) b c (by simpa [At] using hb) (by simpa [At] using hc) e; omega
    have ih' := ih hu'
    cases o with
    | none =>
      have e1 : woL (none :: L) id = none :: woL L id := rfl
      have e2 : getL (none :: L) id = getL L id := by unfold getL; rw [List.find?_cons_of_neg (by simp [hasId])]
      rw [e1, e2]
      unfold cnt at ih' ⊢
      rw [List.countP_cons, List.countP_cons]; simpa using ih'
    | some b =>
      by_cases e : b.id = id
      · have e1 : woL (some b :: L) id = none :: woL L id := by simp [woL, hasId, e]
        have e2 : getL (some b :: L) id = some b := by unfold getL; rw [List.find?_cons_of_pos (by simpa [hasId] using e)]; rfl
        have e3 : getL L id = none := getL_of_none fun j c hc ec => by
          have := hu 0 (j + 1) b c rfl (by simpa [At] using hc) (e.trans ec.symm); omega
        rw [e3] at ih'
        rw [e1, e2]
        unfold cnt at ih' ⊢
        rw [List.countP_cons, List.countP_cons]
        simp at ih' ⊢; omega
      · have e1 : woL (some b :: L) id = some b :: woL L id := by simp [woL, hasId, e]
        have e2 : getL (some b :: L) id = getL L id := by unfold getL; rw [List.find?_cons_of_neg (by simpa [hasId] using e)]
        rw [e1, e2]
        unfold cnt at ih' ⊢
        rw [List.countP_cons, List.countP_cons]
        simp at ih' ⊢; omega
theorem cnt_put {L : Lay} (hG : GoodL L) {i : Nat} (hi : Fre L i) (b : Bk) : cnt (putL L i b) = cnt L + (if (getL L b.id).isSome then 0 else 1) := by
  have h1 : Fre (woL L b.id) i := by unfold Fre woL at *; rw [List.getElem?_map, hi]; rfl
  have h2 := cnt_set h1 b
  have h3 := cnt_wo hG.un b.id
  unfold putL
  rw [h2]
  split at h3 <;> simp_all <;> omega
/-- All blocks, by number. -/
def ids : List Int := (List.range 256).map fun k : Nat => (k : Int)
def listL (L : Lay) : List Bk := ids.filterMap (getL L)
theorem mem_list {L : Lay} (hG : GoodL L) {b : Bk} : b ∈ listL L ↔ ∃ i, At L i b := by
  unfold listL
  rw [List.mem_filterMap]
  constructor
  · rintro ⟨id, -, h⟩; exact (getL_some h).1
  · rintro ⟨i, hi⟩
    refine ⟨b.id, ?_, getL_at hG hi⟩
    obtain ⟨⟨h1, h2, _⟩, _⟩ := refE_zero.1 (hG.ok i b hi)
    exact List.mem_map.2 ⟨b.id.toNat, List.mem_range.2 (by omega), by omega⟩
theorem list_sorted (L : Lay) : (listL L).Pairwise fun a b => a.id < b.id := by
  unfold listL ids
  rw [List.filterMap_map]
  refine List.Pairwise.filterMap _ (R := fun a b : Nat => a < b) ?_ List.pairwise_lt_range
  intro a a' h b hb b' hb'
  have h1 := (getL_some (Option.mem_def.1 hb)).2
  have h2 := (getL_some (Option.mem_def.1 hb')).2
  simp only at h1 h2
  omega
theorem all_nodup {L : Lay} (hu : ∀ i j b c, At L i b → At L j c → b.id = c.id → i = j) : (L.filterMap fun o => o).Pairwise fun a b => a.id ≠ b.id := by
  induction L with
  | nil => exact .nil
  | cons o L ih =>
    have hu' : ∀ i j b c, At L i b → At L j c → b.id = c.id → i = j := fun i j b c hb hc e => by
      have := hu (i + 1) (j + 1) b c (by simpa [At] using hb) (by simpa [At] using hc) e; omega
    cases o with
    | none => simpa using ih hu'
    | some b =>
      rw [List.filterMap_cons_some (by rfl)]
      refine List.Pairwise.cons (fun c hc e => ?_) (ih hu')
      obtain ⟨o, ho, rfl⟩ := List.mem_filterMap.1 hc
      obtain ⟨j, hj⟩ := List.getElem?_of_mem ho
      have := hu 0 (j + 1) b c rfl (by simpa [At] using hj) e; omega
theorem list_perm {L : Lay} (hG : GoodL L) : (listL L).Perm (L.filterMap fun o => o) := by
  have h1 : (listL L).Nodup := (list_sorted L).imp fun h e => by subst e; omega
  have h2 : (L.filterMap fun o => o).Nodup := (all_nodup hG.un).imp fun h e => h (by rw [e])
  refine (List.perm_ext_iff_of_nodup h1 h2).2 fun b => ?_
  rw [mem_list hG, List.mem_filterMap]
  constructor
  · rintro ⟨i, hi⟩; exact ⟨some b, List.mem_of_getElem? hi, rfl⟩
  · rintro ⟨o, ho, rfl⟩; exact List.getElem?_of_mem ho
theorem filterMap_cnt (L : Lay) : (L.filterMap fun o => o).length = cnt L := by
  induction L with
  | nil => rfl
  | cons o L ih => cases o <;> simp [cnt] <;> exact ih
theorem list_length {L : Lay} (hG : GoodL L) : (listL L).length = cnt L := by rw [(list_perm hG).length_eq, filterMap_cnt]
/-- The list is told by what Get answers. -/
theorem list_wo {L : Lay} (hG : GoodL L) (id : Int) : listL (woL L id) = (listL L).filter fun b => decide (b.id ≠ id) := by
  unfold listL
  rw [List.filter_filterMap]
  congr 1
  funext k
  rw [getL_wo hG]
  by_cases e : k = id
  · rw [if_pos e]
    cases h : getL L k with
    | none => rfl
    | some c => have := (getL_some h).2; simp [Option.filter, this, e]
  · rw [if_neg e]
    cases h : getL L k with
    | none => rfl
    | some c => have := (getL_some h).2; simp [Option.filter, this, e]

/-! ### Open -/
/-- What lies there when the first k sectors were read. -/
noncomputable def scan (f : Nat → List UInt8) (n : Nat) : Nat → Lay
  | 0 => List.replicate n none
  | k + 1 => match parse (str (f k)) with
    | none => scan f n k
    | some b => if newer (scan f n k) b then putL (scan f n k) k b else scan f n k
theorem scan_length (f : Nat → List UInt8) (n k : Nat) : (scan f n k).length = n := by
  induction k with
  | zero => simp [scan]
  | succ k ih => unfold scan; split; (exact ih); split; (rw [putL_length]; exact ih); (exact ih)
theorem at_replicate {n i : Nat} {b : Bk} (h : At (List.replicate n none) i b) : False := by
  unfold At at h; rw [List.getElem?_replicate] at h; split at h <;> simp at h
theorem scan_good {f : Nat → List UInt8} {n : Nat} (hn : n ≤ 128) : ∀ k, k ≤ n → GoodL (scan f n k) ∧ (∀ i b, At (scan f n k) i b → i < k ∧ parse (str (f i)) = some b) ∧ ∀ i b, i < k → parse (str (f i)) = some b → ∃ j c, At (scan f n k) j c ∧ c.id = b.id ∧ b.ver ≤ c.ver := by
  intro k
  induction k with
  | zero =>
    intro _
    exact ⟨⟨by simpa [scan] using hn, fun i b h => (at_replicate h).elim, fun i j b c h => (at_replicate h).elim⟩, fun i b h => (at_replicate h).elim, fun i b h => by omega⟩
  | succ k ih =>
    intro hk
    obtain ⟨h1, h2, h3⟩ := ih (by omega)
    have hfr : Fre (scan f n k) k := by
      have hl : k < (scan f n k).length := by rw [scan_length]; omega
      unfold Fre
      rw [List.getElem?_eq_getElem hl]
      cases hx : (scan f n k)[k] with
      | none => rfl
      | some b => have := (h2 k b (by unfold At; rw [List.getElem?_eq_getElem hl, hx])).1; omega
    unfold scan
    split
    · next hp =>
      refine ⟨h1, fun i b h => ⟨by have := (h2 i b h).1; omega, (h2 i b h).2⟩, fun i b hi hb => ?_⟩
      by_cases e : i = k
      · subst e; rw [hp] at hb; cases hb
      · exact h3 i b (by omega) hb
    · next b hp =>
      split
      · next hnw =>
        have hn' := (newer_iff h1).1 hnw
        refine ⟨h1.put hfr.lt (parse_some hp).1, fun i c h => ?_, fun i c hi hc => ?_⟩
        · rcases (at_put hfr.lt).1 h with ⟨rfl, rfl⟩ | ⟨_, h, _⟩
          · exact ⟨by omega, hp⟩
          · exact ⟨by have := (h2 i c h).1; omega, (h2 i c h).2⟩
        · by_cases e : i = k
          · subst e; rw [hp] at hc; cases hc
            exact ⟨i, b, (at_put hfr.lt).2 (.inl ⟨rfl, rfl⟩), rfl, Int.le_refl _⟩
          · obtain ⟨j, d, hd, e1, e2⟩ := h3 i c (by omega) hc
            by_cases e3 : d.id = b.id
            · refine ⟨k, b, (at_put hfr.lt).2 (.inl ⟨rfl, rfl⟩), e3.symm.trans e1, ?_⟩
              have := hn' j d hd e3; omega
            · exact ⟨j, d, (at_put hfr.lt).2 (.inr ⟨fun e4 => hfr.not (e4 ▸ hd), hd, e3⟩), e1, e2⟩
      · next hnw =>
        refine ⟨h1, fun i c h => ⟨by have := (h2 i c h).1; omega, (h2 i c h).2⟩, fun i c hi hc => ?_⟩
        by_cases e : i = k
        · subst e; rw [hp] at hc; cases hc
          unfold newer at hnw
          cases hg : getL (scan f n i) b.id with
          | none => rw [hg] at hnw; exact absurd rfl hnw
          | some d =>
            rw [hg] at hnw
            obtain ⟨⟨j, hj⟩, e1⟩ := getL_some hg
            exact ⟨j, d, hj, e1, by simpa using hnw⟩
        · exact h3 i c (by omega) hc
/-- The sectors that are marked, and hold no block. -/
def mrk (s : List UInt8) : Prop := bt (str s) 0 = 1
instance (s : List UInt8) : Decidable (mrk s) := by unfold mrk; infer_instance
noncomputable def odds (f : Nat → List UInt8) : Nat → List Nat
  | 0 => []
  | k + 1 => if (parse (str (f k))).isNone ∧ mrk (f k) then odds f k ++ [k] else odds f k

/-! ### what lies on a plate -/
/-- The sectors f are just as L says: each block's record in its sector; in a free one nothing that is marked, or what is superseded. -/
structure Fit (f : Nat → List UInt8) (L : Lay) : Prop where
  good : GoodL L
  on : ∀ i b, At L i b → str (f i) = recB b 1
  off : ∀ i, Fre L i → (parse (str (f i)) = none ∧ ¬ mrk (f i)) ∨ ∃ c j b, refE c 1 = 0 ∧ str (f i) = recB c 1 ∧ At L j b ∧ b.id = c.id ∧ c.ver < b.ver
theorem Fit.opens {f : Nat → List UInt8} {L : Lay} (h : Fit f L) : scan f L.length L.length = L ∧ odds f L.length = [] := by
  obtain ⟨h1, h2, h3⟩ := scan_good (f := f) (n := L.length) h.good.hi L.length (Nat.le_refl _)
  have hon : ∀ i b, At L i b → At (scan f L.length L.length) i b := by
    intro i b hb
    obtain ⟨j, c, hc, e1, e2⟩ := h3 i b hb.lt (parse_of (h.good.ok i b hb) (h.on i b hb).symm)
    obtain ⟨hjl, hp⟩ := h2 j c hc
    cases hx : L[j] with
    | some d =>
      have hd : At L j d := by unfold At; rw [List.getElem?_eq_getElem hjl, hx]
      have : d = c := by
        have := parse_of (h.good.ok j d hd) (h.on j d hd).symm
        rw [hp] at this; exact (Option.some.inj this).symm
      subst this
      obtain rfl := h.good.un i j b d hb hd e1.symm
      rw [hb.fn hd]; exact hc
    | none =>
      have hf : Fre L j := by unfold Fre; rw [List.getElem?_eq_getElem hjl, hx]
      rcases h.off j hf with ⟨hn, _⟩ | ⟨c', k, b', hc', e3, hb', e4, e5⟩
      · rw [hp] at hn; cases hn
      · have : c' = c := by
          have := parse_of hc' e3.symm
          rw [hp] at this; exact (Option.some.inj this).symm
        subst this
        have := h.good.eq hb hb' (e1.symm.trans e4.symm)
        subst this
        omega
  constructor
  · apply List.ext_getElem?
    intro i
    by_cases hi : i < L.length
    · cases hx : L[i] with
      | some b =>
        have hb : At L i b := by unfold At; rw [List.getElem?_eq_getElem hi, hx]
        rw [show L[i]? = some (some b) from hb]; exact hon i b hb
      | none =>
        have hf : Fre L i := by unfold Fre; rw [List.getElem?_eq_getElem hi, hx]
        have hi' : i < (scan f L.length L.length).length := by rw [scan_length]; exact hi
        rw [show L[i]? = some none from hf, List.getElem?_eq_getElem hi']
        cases hy : (scan f L.length L.length)[i] with
        | none => rfl
        | some c =>
          exfalso
          have hc : At (scan f L.length L.length) i c := by unfold At; rw [List.getElem?_eq_getElem hi', hy]
          obtain ⟨_, hp⟩ := h2 i c hc
          rcases h.off i hf with ⟨hn, _⟩ | ⟨c', k, b', hc', e3, hb', e4, e5⟩
          · rw [hp] at hn; cases hn
          · have : c' = c := by
              have := parse_of hc' e3.symm
              rw [hp] at this; exact (Option.some.inj this).symm
            subst this
            obtain rfl := h1.un i k _ b' hc (hon k b' hb') e4.symm
            exact hf.not hb'
    · rw [List.getElem?_eq_none (l := L) (by omega), List.getElem?_eq_none (by rw [scan_length]; omega)]
  · have : ∀ k, k ≤ L.length → odds f k = [] := by
      intro k
      induction k with
      | zero => intro _; rfl
      | succ k ih =>
        intro hk
        unfold odds
        rw [if_neg, ih (by omega)]
        rintro ⟨hn, hm⟩
        have hkl : k < L.length := by omega
        cases hx : L[k] with
        | some b =>
          have hb : At L k b := by unfold At; rw [List.getElem?_eq_getElem hkl, hx]
          rw [parse_of (h.good.ok k b hb) (h.on k b hb).symm] at hn; cases hn
        | none =>
          have hf : Fre L k := by unfold Fre; rw [List.getElem?_eq_getElem hkl, hx]
          rcases h.off k hf with ⟨_, hm'⟩ | ⟨c', j, b', hc', e3, _⟩
          · exact hm' hm
          · rw [parse_of hc' e3.symm] at hn; cases hn
    exact this _ (Nat.le_refl _)
/-- A new plate's sectors. -/
theorem Fit.zero {f : Nat → List UInt8} {n : Nat} (hn : n ≤ 128) (h : ∀ i, i < n → f i = zeros 32) : Fit f (List.replicate n none) := by
  refine ⟨⟨by simpa using hn, fun i b h => (at_replicate h).elim, fun i j b c h => (at_replicate h).elim⟩, fun i b h => (at_replicate h).elim, fun i hi => ?_⟩
  left
  rw [h i (by simpa using hi.lt)]
  exact ⟨parse_zeros, by unfold mrk; decide +kernel⟩
/-- Nothing but the free sector i has turned; it holds nothing that is marked. -/
theorem Fit.torn {f g : Nat → List UInt8} {L : Lay} (h : Fit f L) {i : Nat} (hi : Fre L i) (hg : ∀ j, j < L.length → j ≠ i → g j = f j) (hp : ¬ mrk (g i)) : Fit g L := by
  refine ⟨h.good, fun j b hb => ?_, fun j hj => ?_⟩
  · rw [hg j hb.lt (fun e => hi.not (e ▸ hb))]; exact h.on j b hb
  · by_cases e : j = i
    · subst e; exact .inl ⟨parse_head hp, hp⟩
    · rw [hg j hj.lt e]; exact h.off j hj
theorem Fit.same {f g : Nat → List UInt8} {L : Lay} (h : Fit f L) (hg : ∀ j, j < L.length → g j = f j) : Fit g L := by
  refine ⟨h.good, fun j b hb => ?_, fun j hj => ?_⟩
  · rw [hg j hb.lt]; exact h.on j b hb
  · rw [hg j hj.lt]; exact h.off j hj
/-- It holds b, which is newer. -/
theorem Fit.put {f g : Nat → List UInt8} {L : Lay} (h : Fit f L) {i : Nat} (hi : Fre L i) (hg : ∀ j, j < L.length → j ≠ i → g j = f j) {b : Bk} (hb : refE b 1 = 0) (hn : newer L b = true) (hp : str (g i) = recB b 1) : Fit g (putL L i b) := by
  have hn' := (newer_iff h.good).1 hn
  refine ⟨h.good.put hi.lt hb, fun j c hc => ?_, fun j hj => ?_⟩
  · rcases (at_put hi.lt).1 hc with ⟨rfl, rfl⟩ | ⟨e, hc, _⟩
    · exact hp
    · rw [hg j hc.lt e]; exact h.on j c hc
  · have hjl : j < L.length := by have := hj.lt; rwa [putL_length] at this
    by_cases e : j = i
    · subst e; exact (hj.not ((at_put hi.lt).2 (.inl ⟨rfl, rfl⟩))).elim
    · rw [hg j hjl e]
      cases hx : L[j] with
      | some c =>
        have hc : At L j c := by unfold At; rw [List.getElem?_eq_getElem hjl, hx]
        by_cases e2 : c.id = b.id
        · exact .inr ⟨c, i, b, h.good.ok j c hc, h.on j c hc, (at_put hi.lt).2 (.inl ⟨rfl, rfl⟩), e2.symm, hn' j c hc e2⟩
        · exact (hj.not ((at_put hi.lt).2 (.inr ⟨e, hc, e2⟩))).elim
      | none =>
        have hf : Fre L j := by unfold Fre; rw [List.getElem?_eq_getElem hjl, hx]
        rcases h.off j hf with h1 | ⟨c, k, d, hc, e3, hd, e4, e5⟩
        · exact .inl h1
        · refine .inr ⟨c, ?_⟩
          by_cases e6 : d.id = b.id
          · have := hn' k d hd e6
            exact ⟨i, b, hc, e3, (at_put hi.lt).2 (.inl ⟨rfl, rfl⟩), e6.symm.trans e4, by omega⟩
          · exact ⟨k, d, hc, e3, (at_put hi.lt).2 (.inr ⟨fun e7 => hi.not (e7 ▸ hd), hd, e6⟩), e4, e5⟩
/-- The marks of a block's records are taken. -/
theorem Fit.drop {f g : Nat → List UInt8} {L : Lay} (h : Fit f L) (id : Int) (hg : ∀ j, j < L.length → (∀ b, parse (str (f j)) = some b → b.id ≠ id) → g j = f j) (hm : ∀ j b, j < L.length → parse (str (f j)) = some b → b.id = id → ¬ mrk (g j)) : Fit g (woL L id) := by
  refine ⟨h.good.wo id, fun j c hc => ?_, fun j hj => ?_⟩
  · obtain ⟨hc, e⟩ := at_wo.1 hc
    have hp := parse_of (h.good.ok j c hc) (h.on j c hc).symm
    rw [hg j hc.lt (fun b hb => by rw [hp] at hb; cases hb; exact e)]; exact h.on j c hc
  · have hjl : j < L.length := by have := hj.lt; rwa [woL_length] at this
    cases hx : parse (str (f j)) with
    | some c =>
      by_cases e : c.id = id
      · have := hm j c hjl hx e
        exact .inl ⟨parse_head this, this⟩
      · rw [hg j hjl (fun b hb => by rw [hx] at hb; cases hb; exact e)]
        cases hy : L[j] with
        | some d =>
          have hd : At L j d := by unfold At; rw [List.getElem?_eq_getElem hjl, hy]
          have : d = c := by
            have := parse_of (h.good.ok j d hd) (h.on j d hd).symm
            rw [hx] at this; exact (Option.some.inj this).symm
          subst this
          exact (hj.not (at_wo.2 ⟨hd, e⟩)).elim
        | none =>
          have hf : Fre L j := by unfold Fre; rw [List.getElem?_eq_getElem hjl, hy]
          rcases h.off j hf with h1 | ⟨c', k, d, hc, e3, hd, e4, e5⟩
          · exact .inl h1
          · have : c' = c := by
              have := parse_of hc e3.symm
              rw [hx] at this; exact (Option.some.inj this).symm
            subst this
            exact .inr ⟨c', k, d, hc, e3, at_wo.2 ⟨hd, by rw [e4]; exact e⟩, e4, e5⟩
    | none =>
      rw [hg j hjl (fun b hb => by rw [hx] at hb; cases hb)]
      cases hy : L[j] with
      | some d =>
        have hd : At L j d := by unfold At; rw [List.getElem?_eq_getElem hjl, hy]
        have := parse_of (h.good.ok j d hd) (h.on j d hd).symm
        rw [hx] at this; cases this
      | none =>
        have hf : Fre L j := by unfold Fre; rw [List.getElem?_eq_getElem hjl, hy]
        rcases h.off j hf with h1 | ⟨c', k, d, hc, e3, hd, e4, e5⟩
        · exact .inl h1
        · have := parse_of hc e3.symm; rw [hx] at this; cases this
/-- A block lies there just if a record of its number is there. -/
theorem Fit.has {f : Nat → List UInt8} {L : Lay} (h : Fit f L) (id : Int) : (getL L id).isSome = true ↔ ∃ j b, j < L.length ∧ parse (str (f j)) = some b ∧ b.id = id := by
  constructor
  · intro hs
    obtain ⟨b, hb⟩ := Option.isSome_iff_exists.1 hs
    obtain ⟨⟨j, hj⟩, e⟩ := getL_some hb
    exact ⟨j, b, hj.lt, parse_of (h.good.ok j b hj) (h.on j b hj).symm, e⟩
  · rintro ⟨j, b, hj, hp, rfl⟩
    cases hy : L[j] with
    | some d =>
      have hd : At L j d := by unfold At; rw [List.getElem?_eq_getElem hj, hy]
      have := parse_of (h.good.ok j d hd) (h.on j d hd).symm
      rw [hp] at this
      rw [Option.some.inj this, getL_at h.good hd]; rfl
    | none =>
      have hf : Fre L j := by unfold Fre; rw [List.getElem?_eq_getElem hj, hy]
      rcases h.off j hf with ⟨h1, _⟩ | ⟨c', k, d, hc, e3, hd, e4, e5⟩
      · rw [hp] at h1; cases h1
      · have := parse_of hc e3.symm
        rw [hp] at this
        rw [Option.some.inj this, ← e4, getL_at h.good hd]; rfl
end Go.Proofs.YtmmpknfkncgjpaaGreatDoor
