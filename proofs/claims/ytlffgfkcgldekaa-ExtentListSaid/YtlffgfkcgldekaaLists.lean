/-
  What becomes of the row of free ranges when one is cut out, or put in; what is asked ahead of it; the lowest that there is.
-/
import Derived.Test.YtlffgfkcgldekaaPure
namespace Go.Proofs.Ytlffgfkcgldekaa

/-- A part of the row is changed for another one. -/
theorem IsU.swap {p q : Int → Bool} {n : Nat} {A M M' B : List Rg} (h : IsU p n (A ++ (M ++ B))) (hM : Sep M') (h1 : ∀ a ∈ A, ∀ m ∈ M', a.t < m.f) (h2 : ∀ m ∈ M', ∀ b ∈ B, m.t < b.f) (h3 : ∀ m ∈ M', 0 ≤ m.f ∧ m.t ≤ (n : Int))
    (hAB : ∀ a ∈ A, ∀ b ∈ B, a.t < b.f) (hq : ∀ i : Int, 0 ≤ i → i < (n : Int) → (q i = true ↔ Mem A i ∨ Mem M' i ∨ Mem B i)) : IsU q n (A ++ (M' ++ B)) := by
  have hs := sep_append.1 h.sep
  have hs2 := sep_append.1 hs.2.1
  refine ⟨sep_append.2 ⟨hs.1, sep_append.2 ⟨hM, hs2.2.1, h2⟩, fun a ha b hb => ?_⟩, fun x hx => ?_, fun i hi1 hi2 => ?_⟩
  · rcases List.mem_append.1 hb with hb | hb
    · exact h1 a ha b hb
    · exact hAB a ha b hb
  · rcases List.mem_append.1 hx with hx | hx
    · exact h.bd x (by simp [hx])
    · rcases List.mem_append.1 hx with hx | hx
      · exact h3 x hx
      · exact h.bd x (by simp [hx])
  · rw [hq i hi1 hi2, mem_append, mem_append]

theorem mem_one {x : Rg} {i : Int} : Mem [x] i ↔ x.f ≤ i ∧ i < x.t := by
  rw [mem_cons]; exact ⟨fun h => by rcases h with h | h; exact h; exact absurd h mem_nil, .inl⟩
theorem split_at {l : List Rg} {k : Nat} {x : Rg} (h : l[k]? = some x) : l = l.take k ++ ([x] ++ l.drop (k + 1)) := by
  obtain ⟨hk, rfl⟩ := List.getElem?_eq_some_iff.1 h
  rw [List.singleton_append, List.getElem_cons_drop, List.take_append_drop]

/-- What is left of x without r. -/
def rest (x r : Rg) : List Rg := (if x.f < r.f then [⟨x.f, r.f⟩] else []) ++ (if r.t < x.t then [⟨r.t, x.t⟩] else [])
theorem rest_mem {x r m : Rg} (h : m ∈ rest x r) : (m = ⟨x.f, r.f⟩ ∧ x.f < r.f) ∨ (m = ⟨r.t, x.t⟩ ∧ r.t < x.t) := by
  unfold rest at h
  rcases List.mem_append.1 h with h | h
  · split at h
    · simp at h; exact .inl ⟨h, by assumption⟩
    · cases h
  · split at h
    · simp at h; exact .inr ⟨h, by assumption⟩
    · cases h
theorem rest_Mem {x r : Rg} {i : Int} (h1 : x.f ≤ r.f) (h2 : r.f < r.t) (h3 : r.t ≤ x.t) : Mem (rest x r) i ↔ (x.f ≤ i ∧ i < x.t) ∧ ¬ (r.f ≤ i ∧ i < r.t) := by
  unfold rest
  rw [mem_append]
  have e1 : Mem (if x.f < r.f then [⟨x.f, r.f⟩] else []) i ↔ x.f ≤ i ∧ i < r.f := by
    split
    · exact mem_one
    · exact ⟨fun h => absurd h mem_nil, fun h => by omega⟩
  have e2 : Mem (if r.t < x.t then [⟨r.t, x.t⟩] else []) i ↔ r.t ≤ i ∧ i < x.t := by
    split
    · exact mem_one
    · exact ⟨fun h => absurd h mem_nil, fun h => by omega⟩
  rw [e1, e2]
  omega
theorem rest_sep {x r : Rg} (h2 : r.f < r.t) : Sep (rest x r) := by
  unfold rest
  refine sep_append.2 ⟨?_, ?_, ?_⟩
  · split
    · exact sep_one.2 (by assumption)
    · exact Sep.nil
  · split
    · exact sep_one.2 (by assumption)
    · exact Sep.nil
  · intro a ha b hb
    split at ha
    · split at hb
      · simp at ha hb; subst ha hb; exact h2
      · cases hb
    · cases ha
/-- r is cut out of the range that has it. -/
theorem cut_is {p : Int → Bool} {n k : Nat} {l : List Rg} (h : IsU p n l) {x r : Rg} (hk : l[k]? = some x) (h1 : x.f ≤ r.f) (h2 : r.f < r.t) (h3 : r.t ≤ x.t) :
    IsU (setP p r.f r.t false) n (l.take k ++ (rest x r ++ l.drop (k + 1))) := by
  have hl := split_at hk
  have hx := h.bd x (List.mem_of_getElem? hk)
  generalize l.take k = A at hl ⊢
  generalize l.drop (k + 1) = B at hl ⊢
  rw [hl] at h
  have hs := sep_append.1 h.sep
  have hs2 := sep_append.1 hs.2.1
  refine h.swap (rest_sep h2) (fun a ha m hm => ?_) (fun m hm b hb => ?_) (fun m hm => ?_) (fun a ha b hb => hs.2.2 a ha b (by simp [hb])) (fun i hi1 hi2 => ?_)
  · have e := hs.2.2 a ha x (by simp)
    rcases rest_mem hm with ⟨rfl, -⟩ | ⟨rfl, -⟩
    · exact e
    · show a.t < r.t; omega
  · have e := hs2.2.2 x (by simp) b hb
    rcases rest_mem hm with ⟨rfl, -⟩ | ⟨rfl, -⟩
    · show r.f < b.f; omega
    · exact e
  · rcases rest_mem hm with ⟨rfl, -⟩ | ⟨rfl, -⟩
    · show 0 ≤ x.f ∧ r.f ≤ (n : Int); omega
    · show 0 ≤ r.t ∧ x.t ≤ (n : Int); omega
  · rw [rest_Mem h1 h2 h3]
    have hm := h.mem i hi1 hi2
    rw [mem_append, mem_append, mem_one] at hm
    unfold setP
    by_cases hr : r.f ≤ i ∧ i < r.t
    · rw [if_pos hr]
      refine ⟨fun a => (by cases a), ?_⟩
      rintro (⟨a, ha, ha'⟩ | ⟨-, h'⟩ | ⟨b, hb, hb'⟩)
      · have := hs.2.2 a ha x (by simp); omega
      · exact absurd hr h'
      · have := hs2.2.2 x (by simp) b hb; omega
    · rw [if_neg hr, hm]
      constructor
      · rintro (a | a | a)
        · exact .inl a
        · exact .inr (.inl ⟨a, hr⟩)
        · exact .inr (.inr a)
      · rintro (a | a | a)
        · exact .inl a
        · exact .inr (.inl a.1)
        · exact .inr (.inr a)

theorem ex_get {l : List Rg} {k : Nat} (h : k < l.length) : ∃ x, l[k]? = some x := ⟨_, List.getElem?_eq_getElem h⟩
theorem sep_get {l : List Rg} (hs : Sep l) {a b : Nat} {x y : Rg} (ha : l[a]? = some x) (hb : l[b]? = some y) (h : a < b) : x.t < y.f := by
  obtain ⟨h1, rfl⟩ := List.getElem?_eq_some_iff.1 ha
  obtain ⟨h2, rfl⟩ := List.getElem?_eq_some_iff.1 hb
  exact List.pairwise_iff_getElem.1 hs.ap _ _ h1 h2 h
/-- Take's question. -/
theorem take_asks {s : St} (h : Good s) {r : Rg} (hr : r.f < r.t) : All s r true ↔ ∃ x, (runs s)[pos (runs s) r.f]? = some x ∧ x.f ≤ r.f ∧ r.t ≤ x.t := by
  have hs := (runs_is s).sep
  constructor
  · intro ha
    have h1 := holds_is h r.f
    rw [ha r.f (by omega) hr] at h1
    unfold holdsB at h1
    split at h1
    · cases h1
    · next x hx =>
      have h2 : x.f ≤ r.f := by simpa using h1
      refine ⟨x, hx, h2, ?_⟩
      have h3 := pos_ge hs (i := r.f) hx (Nat.le_refl _)
      rcases Int.lt_or_le x.t r.t with h4 | h4
      · exfalso
        obtain ⟨y, hy, h5, h6⟩ := (h.mem x.t).1 (ha x.t (by omega) h4)
        obtain ⟨a, hya⟩ := List.getElem?_of_mem hy
        rcases Nat.lt_trichotomy a (pos (runs s) r.f) with h7 | h7 | h7
        · have := sep_get hs hya hx h7
          have := hs.pos x (List.mem_of_getElem? hx)
          omega
        · rw [h7, hx] at hya; cases hya; omega
        · have := sep_get hs hx hya h7; omega
      · exact h4
  · rintro ⟨x, hx, h1, h2⟩ i hi1 hi2
    exact (h.mem i).2 ⟨x, List.mem_of_getElem? hx, by omega, by omega⟩
/-- Give's question. -/
theorem give_asks {s : St} (h : Good s) {r : Rg} (hr : r.f < r.t) : All s r false ↔ ∀ x, (runs s)[pos (runs s) r.f]? = some x → r.t ≤ x.f := by
  have hs := (runs_is s).sep
  constructor
  · intro ha x hx
    have h3 := pos_ge hs (i := r.f) hx (Nat.le_refl _)
    have h4 := hs.pos x (List.mem_of_getElem? hx)
    rcases Int.lt_or_le x.f r.t with h5 | h5
    · exfalso
      rcases Int.lt_or_le r.f x.f with h6 | h6
      · have := ha x.f (by omega) h5
        rw [(h.mem x.f).2 ⟨x, List.mem_of_getElem? hx, by omega, h4⟩] at this
        cases this
      · have := ha r.f (by omega) hr
        rw [(h.mem r.f).2 ⟨x, List.mem_of_getElem? hx, h6, h3⟩] at this
        cases this
    · exact h5
  · intro ha i hi1 hi2
    cases hp : s.p i with
    | false => rfl
    | true =>
      exfalso
      obtain ⟨y, hy, h5, h6⟩ := (h.mem i).1 hp
      obtain ⟨a, hya⟩ := List.getElem?_of_mem hy
      rcases Nat.lt_or_ge a (pos (runs s) r.f) with h7 | h7
      · have := pos_lt hya h7; omega
      · have hlt : pos (runs s) r.f < (runs s).length := by have := (List.getElem?_eq_some_iff.1 hya).1; omega
        obtain ⟨x0, hx⟩ := ex_get hlt
        have := ha _ hx
        rcases Nat.eq_or_lt_of_le h7 with h8 | h8
        · rw [h8] at hx; rw [hx] at hya; cases hya; omega
        · have h9 := sep_get hs hx hya h8
          have := hs.pos _ (List.mem_of_getElem? hx); omega

/-- r is put in between A and B, in the place of what it is one with (M). -/
theorem put_is {p : Int → Bool} {n : Nat} {A M B : List Rg} {r q : Rg} (h : IsU p n (A ++ (M ++ B))) (h0 : 0 ≤ q.f) (hn : q.t ≤ (n : Int))
    (hA : ∀ a ∈ A, a.t < q.f) (hB : ∀ b ∈ B, q.t < b.f) (hq : ∀ i, (q.f ≤ i ∧ i < q.t) ↔ (Mem M i ∨ (r.f ≤ i ∧ i < r.t))) (hlt : q.f < q.t) : IsU (setP p r.f r.t true) n (A ++ ([q] ++ B)) := by
  have hs := sep_append.1 h.sep
  refine h.swap (sep_one.2 hlt) (fun a ha m hm => by simp at hm; subst hm; exact hA a ha) (fun m hm b hb => by simp at hm; subst hm; exact hB b hb) (fun m hm => by simp at hm; subst hm; exact ⟨h0, hn⟩) (fun a ha b hb => hs.2.2 a ha b (by simp [hb])) (fun i hi1 hi2 => ?_)
  have hm := h.mem i hi1 hi2
  rw [mem_append, mem_append] at hm
  rw [mem_one, hq]
  unfold setP
  by_cases hi : r.f ≤ i ∧ i < r.t
  · rw [if_pos hi]; exact ⟨fun _ => .inr (.inl (.inr hi)), fun _ => rfl⟩
  · rw [if_neg hi, hm]
    constructor
    · rintro (a | a | a)
      · exact .inl a
      · exact .inr (.inl (.inl a))
      · exact .inr (.inr a)
    · rintro (a | (a | a) | a)
      · exact .inl a
      · exact .inr (.inl a)
      · exact absurd a hi
      · exact .inr (.inr a)
/-- Is r one with the range ahead of k, with that at k? -/
def joinL (l : List Rg) (k : Nat) (r : Rg) : Prop := ∃ x, 0 < k ∧ l[k - 1]? = some x ∧ x.t = r.f
def joinR (l : List Rg) (k : Nat) (r : Rg) : Prop := ∃ x, l[k]? = some x ∧ x.f = r.t
section
variable {s : St} {r : Rg}
theorem put_sides (h : Good s) (hr : mayE s r = 0) (ha : All s r false) :
    (∀ a x, (runs s)[a]? = some x → a < pos (runs s) r.f → x.t ≤ r.f) ∧ (∀ a x, (runs s)[a]? = some x → pos (runs s) r.f ≤ a → r.t ≤ x.f) := by
  obtain ⟨h1, h2, h3⟩ := mayE_zero hr
  have hs := (runs_is s).sep
  refine ⟨fun a x hx hlt => pos_lt hx hlt, fun a x hx hge => ?_⟩
  have hlt : pos (runs s) r.f < (runs s).length := by have := (List.getElem?_eq_some_iff.1 hx).1; omega
  obtain ⟨y0, hy⟩ := ex_get hlt
  have h4 := (give_asks h h1).1 ha _ hy
  rcases Nat.eq_or_lt_of_le hge with h5 | h5
  · rw [h5] at hy; rw [hy] at hx; cases hx; exact h4
  · have h6 := sep_get hs hy hx h5
    have := hs.pos _ (List.mem_of_getElem? hy); omega
theorem mem_take {l : List Rg} {k : Nat} {x : Rg} (h : x ∈ l.take k) : ∃ a, a < k ∧ l[a]? = some x := by
  obtain ⟨a, ha⟩ := List.getElem?_of_mem h
  have hlt := (List.getElem?_eq_some_iff.1 ha).1
  rw [List.length_take] at hlt
  exact ⟨a, by omega, by rw [List.getElem?_take, if_pos (by omega)] at ha; exact ha⟩
theorem mem_drop {l : List Rg} {k : Nat} {x : Rg} (h : x ∈ l.drop k) : ∃ a, k ≤ a ∧ l[a]? = some x := by
  obtain ⟨a, ha⟩ := List.getElem?_of_mem h
  exact ⟨k + a, by omega, by rw [List.getElem?_drop] at ha; exact ha⟩
theorem put_none (h : Good s) (hr : mayE s r = 0) (ha : All s r false) (hL : ¬ joinL (runs s) (pos (runs s) r.f) r) (hR : ¬ joinR (runs s) (pos (runs s) r.f) r) :
    (runs s).take (pos (runs s) r.f) ++ ([r] ++ (runs s).drop (pos (runs s) r.f)) = runs (set s r true) := by
  obtain ⟨h1, h2, h3⟩ := mayE_zero hr
  obtain ⟨sl, sr⟩ := put_sides h hr ha
  have hs := (runs_is s).sep
  refine runs_eq (s := set s r true) (put_is (M := []) (show IsU s.p s.n _ by simpa using runs_is s) h2 h3 (fun a hx => ?_) (fun b hx => ?_) (fun i => ⟨.inr, fun h => by rcases h with h | h; exact absurd h mem_nil; exact h⟩) h1)
  · obtain ⟨j, hj, hja⟩ := mem_take hx
    have h4 := sl j a hja hj
    rcases Nat.lt_or_ge (j + 1) (pos (runs s) r.f) with h5 | h5
    · have hlt : j + 1 < (runs s).length := by have := pos_le (runs s) r.f; omega
      obtain ⟨y0, hy⟩ := ex_get hlt
      have h6 := sep_get hs hja hy (by omega)
      have h7 := sl _ _ hy h5
      have := hs.pos _ (List.mem_of_getElem? hy); omega
    · have : a.t ≠ r.f := fun e => hL ⟨a, by omega, by rw [show pos (runs s) r.f - 1 = j by omega]; exact hja, e⟩
      omega
  · obtain ⟨j, hj, hjb⟩ := mem_drop hx
    have h4 := sr j b hjb hj
    rcases Nat.eq_or_lt_of_le hj with h5 | h5
    · have : b.f ≠ r.t := fun e => hR ⟨b, by rw [h5]; exact hjb, e⟩
      omega
    · have hlt : pos (runs s) r.f < (runs s).length := by have := (List.getElem?_eq_some_iff.1 hjb).1; omega
      obtain ⟨y0, hy⟩ := ex_get hlt
      have h6 := sep_get hs hy hjb h5
      have h7 := sr _ _ hy (Nat.le_refl _)
      have := hs.pos _ (List.mem_of_getElem? hy); omega
theorem put_left (h : Good s) (hr : mayE s r = 0) (ha : All s r false) {x : Rg} (hk : 0 < pos (runs s) r.f) (hx : (runs s)[pos (runs s) r.f - 1]? = some x) (hxt : x.t = r.f) (hR : ¬ joinR (runs s) (pos (runs s) r.f) r) :
    (runs s).take (pos (runs s) r.f - 1) ++ ([⟨x.f, r.t⟩] ++ (runs s).drop (pos (runs s) r.f)) = runs (set s r true) := by
  obtain ⟨h1, h2, h3⟩ := mayE_zero hr
  obtain ⟨sl, sr⟩ := put_sides h hr ha
  have hs := (runs_is s).sep
  have hxb := (runs_is s).bd x (List.mem_of_getElem? hx)
  have hxp := hs.pos x (List.mem_of_getElem? hx)
  have hl := split_at hx
  rw [show pos (runs s) r.f - 1 + 1 = pos (runs s) r.f by omega] at hl
  have hU := runs_is s
  rw [hl] at hU
  refine runs_eq (s := set s r true) (put_is (M := [x]) hU hxb.1 h3 (fun a hm => ?_) (fun b hm => ?_) (fun i => ?_) (by show x.f < r.t; omega))
  · obtain ⟨j, hj, hja⟩ := mem_take hm
    exact (sep_get hs hja hx hj : a.t < x.f)
  · obtain ⟨j, hj, hjb⟩ := mem_drop hm
    have h4 := sr j b hjb hj
    rcases Nat.eq_or_lt_of_le hj with h5 | h5
    · have : b.f ≠ r.t := fun e => hR ⟨b, by rw [h5]; exact hjb, e⟩
      show r.t < b.f; omega
    · have hlt : pos (runs s) r.f < (runs s).length := by have := (List.getElem?_eq_some_iff.1 hjb).1; omega
      obtain ⟨y0, hy⟩ := ex_get hlt
      have h6 := sep_get hs hy hjb h5
      have h7 := sr _ _ hy (Nat.le_refl _)
      have := hs.pos _ (List.mem_of_getElem? hy)
      show r.t < b.f; omega
  · rw [mem_one]; show x.f ≤ i ∧ i < r.t ↔ _; omega
theorem put_right (h : Good s) (hr : mayE s r = 0) (ha : All s r false) {y : Rg} (hL : ¬ joinL (runs s) (pos (runs s) r.f) r) (hy : (runs s)[pos (runs s) r.f]? = some y) (hyf : y.f = r.t) :
    (runs s).take (pos (runs s) r.f) ++ ([⟨r.f, y.t⟩] ++ (runs s).drop (pos (runs s) r.f + 1)) = runs (set s r true) := by
  obtain ⟨h1, h2, h3⟩ := mayE_zero hr
  obtain ⟨sl, sr⟩ := put_sides h hr ha
  have hs := (runs_is s).sep
  have hyb := (runs_is s).bd y (List.mem_of_getElem? hy)
  have hyp := hs.pos y (List.mem_of_getElem? hy)
  have hU := runs_is s
  rw [split_at hy] at hU
  refine runs_eq (s := set s r true) (put_is (M := [y]) hU h2 hyb.2 (fun a hm => ?_) (fun b hm => ?_) (fun i => ?_) (by show r.f < y.t; omega))
  · obtain ⟨j, hj, hja⟩ := mem_take hm
    have h4 := sl j a hja hj
    rcases Nat.lt_or_ge (j + 1) (pos (runs s) r.f) with h5 | h5
    · have hlt : j + 1 < (runs s).length := by have := pos_le (runs s) r.f; omega
      obtain ⟨y0, hy⟩ := ex_get hlt
      have h6 := sep_get hs hja hy (by omega)
      have h7 := sl _ _ hy h5
      have := hs.pos _ (List.mem_of_getElem? hy)
      show a.t < r.f; omega
    · have : a.t ≠ r.f := fun e => hL ⟨a, by omega, by rw [show pos (runs s) r.f - 1 = j by omega]; exact hja, e⟩
      show a.t < r.f; omega
  · obtain ⟨j, hj, hjb⟩ := mem_drop hm
    exact (sep_get hs hy hjb (by omega) : _ < b.f)
  · rw [mem_one]; show r.f ≤ i ∧ i < y.t ↔ _; omega
theorem put_both (hr : mayE s r = 0) {x y : Rg} (hk : 0 < pos (runs s) r.f) (hx : (runs s)[pos (runs s) r.f - 1]? = some x) (hxt : x.t = r.f) (hy : (runs s)[pos (runs s) r.f]? = some y) (hyf : y.f = r.t) :
    (runs s).take (pos (runs s) r.f - 1) ++ ([⟨x.f, y.t⟩] ++ (runs s).drop (pos (runs s) r.f + 1)) = runs (set s r true) := by
  obtain ⟨h1, h2, h3⟩ := mayE_zero hr
  have hs := (runs_is s).sep
  have hxb := (runs_is s).bd x (List.mem_of_getElem? hx)
  have hxp := hs.pos x (List.mem_of_getElem? hx)
  have hyb := (runs_is s).bd y (List.mem_of_getElem? hy)
  have hyp := hs.pos y (List.mem_of_getElem? hy)
  have hl := split_at hx
  rw [show pos (runs s) r.f - 1 + 1 = pos (runs s) r.f by omega] at hl
  have hd : (runs s).drop (pos (runs s) r.f) = y :: (runs s).drop (pos (runs s) r.f + 1) := by
    obtain ⟨hlt, rfl⟩ := List.getElem?_eq_some_iff.1 hy
    rw [List.getElem_cons_drop]
  have hU := runs_is s
  rw [hl, hd] at hU
  refine runs_eq (s := set s r true) (put_is (M := [x, y]) hU hxb.1 hyb.2 (fun a hm => ?_) (fun b hm => ?_) (fun i => ?_) (by show x.f < y.t; omega))
  · obtain ⟨j, hj, hja⟩ := mem_take hm
    exact (sep_get hs hja hx hj : a.t < x.f)
  · obtain ⟨j, hj, hjb⟩ := mem_drop hm
    exact (sep_get hs hy hjb (by omega) : _ < b.f)
  · rw [mem_cons, mem_one]; show x.f ≤ i ∧ i < y.t ↔ _; omega
theorem cut_runs {k : Nat} {x : Rg} (hk : (runs s)[k]? = some x) (h1 : x.f ≤ r.f) (h2 : r.f < r.t) (h3 : r.t ≤ x.t) : (runs s).take k ++ (rest x r ++ (runs s).drop (k + 1)) = runs (set s r false) :=
  runs_eq (s := set s r false) (cut_is (runs_is s) hk h1 h2 h3)
end

/-! ### Alloc -/
theorem alloc_cases (s : St) (h : Good s) (k : Int) : (allocE s k ≠ 0 ∧ (allocE s k = 1 ∨ allocE s k = 2) ∧ allocR s k = ⟨0, 0⟩ ∧ allocS s k = s) ∨
    (allocE s k = 0 ∧ 1 ≤ k ∧ ∃ f, allocR s k = ⟨f, f + k⟩ ∧ mayE s ⟨f, f + k⟩ = 0 ∧ All s ⟨f, f + k⟩ true ∧ allocS s k = set s ⟨f, f + k⟩ false) := by
  unfold allocE allocR allocS
  by_cases hk : k < 1
  · rw [if_pos hk, if_pos hk, if_pos hk]; exact .inl ⟨by omega, .inl rfl, rfl, rfl⟩
  · rw [if_neg hk, if_neg hk, if_neg hk]
    cases hf : (runs s).find? (wide k) with
    | none => exact .inl ⟨by simp, .inr rfl, rfl, rfl⟩
    | some x =>
      have hx := List.mem_of_find?_eq_some hf
      have hw := List.find?_some hf
      have hw' : k ≤ x.t - x.f := by simpa [wide] using hw
      have hb := (runs_is s).bd x hx
      refine .inr ⟨rfl, by omega, x.f, rfl, mayE_of (by show x.f < x.f + k; omega) hb.1 (by show x.f + k ≤ _; omega), fun i h1 h2 => ?_, rfl⟩
      have h2' : i < x.f + k := h2
      exact (h.mem i).2 ⟨x, hx, h1, by omega⟩
/-- It is the lowest one. -/
theorem alloc_lowest {s : St} (h : Good s) {k : Int} (hk : 1 ≤ k) {g : Int} (ha : All s ⟨g, g + k⟩ true) : allocE s k = 0 ∧ (allocR s k).f ≤ g := by
  unfold allocE allocR
  simp only [if_neg (show ¬ k < 1 by omega)]
  have hs := (runs_is s).sep
  obtain ⟨y, hy, h1, h2⟩ := (take_asks h (r := ⟨g, g + k⟩) (by show g < g + k; omega)).1 ha
  have h1' : y.f ≤ g := h1
  have h2' : g + k ≤ y.t := h2
  cases hf : (runs s).find? (wide k) with
  | none =>
    have := List.find?_eq_none.1 hf y (List.mem_of_getElem? hy)
    simp [wide] at this
    omega
  | some x =>
    refine ⟨rfl, ?_⟩
    show x.f ≤ g
    obtain ⟨hw, as', bs, hl, hno⟩ := List.find?_eq_some_iff_append.1 hf
    have hym := List.mem_of_getElem? hy
    rw [hl] at hym
    rcases List.mem_append.1 hym with hm | hm
    · have := hno y hm
      simp [wide] at this
      omega
    · rcases List.mem_cons.1 hm with rfl | hm
      · exact h1'
      · rw [hl] at hs
        have h3 := (sep_cons.1 (sep_append.1 hs).2.1).2.2 y hm
        have h4 := hs.pos x (by simp)
        omega
theorem alloc_none {s : St} (h : Good s) {k : Int} (hk : 1 ≤ k) (hn : allocE s k ≠ 0) (g : Int) : ¬ All s ⟨g, g + k⟩ true := fun ha => hn (alloc_lowest h hk ha).1
theorem Good.alloc {s : St} (h : Good s) (k : Int) : Good (allocS s k) := by
  rcases alloc_cases s h k with ⟨-, -, -, e⟩ | ⟨-, -, f, -, hm, -, e⟩
  · rw [e]; exact h
  · rw [e]; exact h.set hm _

/-! ### what follows -/
theorem set_back {s : St} {r : Rg} (ha : All s r true) : set (set s r false) r true = s := by
  refine St.ext' rfl fun i => ?_
  simp only [set, setP]
  split
  · next h => exact (ha i h.1 h.2).symm
  · rfl
theorem set_all (s : St) (r : Rg) (b : Bool) : All (set s r b) r b := fun i h1 h2 => by
  simp only [set, setP]; rw [if_pos ⟨h1, h2⟩]
theorem mayE_set (s : St) (r q : Rg) (b : Bool) : mayE (set s r b) q = mayE s q := rfl
theorem all_not {s : St} {r : Rg} {b c : Bool} (hr : r.f < r.t) (h : All s r b) (hbc : b ≠ c) : ¬ All s r c := fun h' => by
  have h1 := h r.f (by omega) hr
  have h2 := h' r.f (by omega) hr
  rw [h1] at h2; exact hbc h2
/-- Behind a Take that is OK. -/
theorem take_then {s : St} {r : Rg} (h : takeE s r = 0) : takeS s r = set s r false ∧ takeE (set s r false) r = 4 ∧ giveE (set s r false) r = 0 ∧ giveS (set s r false) r = s := by
  obtain ⟨h1, h2⟩ := takeE_zero.1 h
  obtain ⟨hlt, -, -⟩ := mayE_zero h1
  have hF := set_all s r false
  have hg : giveE (set s r false) r = 0 := giveE_zero.2 ⟨h1, hF⟩
  refine ⟨by unfold takeS; rw [if_pos h], ?_, hg, ?_⟩
  · unfold takeE
    rw [mayE_set, h1, if_neg (by omega), allB_false.2 (all_not hlt hF (by decide))]
    rfl
  · unfold giveS; rw [if_pos hg, set_back h2]
/-- What is free is not given. -/
theorem give_free {s : St} {r : Rg} (h : mayE s r = 0) (ha : All s r true) : giveE s r = 3 ∧ giveS s r = s := by
  obtain ⟨hlt, -, -⟩ := mayE_zero h
  have e : giveE s r = 3 := by
    unfold giveE
    rw [h, if_neg (by omega), allB_false.2 (all_not hlt ha (by decide))]
    rfl
  exact ⟨e, by unfold giveS; rw [if_neg (by omega)]⟩

/-! ### how many are free -/
def ov (f t : Int) (k : Nat) : Int := if (k : Int) ≤ f then 0 else if t ≤ (k : Int) then t - f else k - f
theorem ov_zero {f t : Int} (hf : 0 ≤ f) : ov f t 0 = 0 := by unfold ov; rw [if_pos (by omega)]
theorem ov_succ {f t : Int} (hft : f ≤ t) (k : Nat) : ov f t (k + 1) = ov f t k + if f ≤ (k : Int) ∧ (k : Int) < t then 1 else 0 := by
  unfold ov
  by_cases h1 : (k : Int) < f
  · rw [if_pos (show ((k + 1 : Nat) : Int) ≤ f by omega), if_pos (show (k : Int) ≤ f by omega), if_neg (by omega)]; rfl
  · rw [if_neg (show ¬ ((k + 1 : Nat) : Int) ≤ f by omega)]
    by_cases h2 : (k : Int) < t
    · rw [if_pos (show f ≤ (k : Int) ∧ (k : Int) < t by omega)]
      by_cases h3 : (k : Int) ≤ f
      · rw [if_pos h3]; split <;> omega
      · rw [if_neg h3, if_neg (show ¬ t ≤ (k : Int) by omega)]; split <;> omega
    · rw [if_neg (show ¬ (f ≤ (k : Int) ∧ (k : Int) < t) by omega), if_pos (show t ≤ ((k + 1 : Nat) : Int) by omega)]
      by_cases h3 : (k : Int) ≤ f
      · rw [if_pos h3]; omega
      · rw [if_neg h3, if_pos (show t ≤ (k : Int) by omega)]; omega
theorem ov_end {f t : Int} (hft : f ≤ t) {k : Nat} (hk : t ≤ (k : Int)) : ov f t k = t - f := by
  unfold ov
  by_cases h : (k : Int) ≤ f
  · rw [if_pos h]; omega
  · rw [if_neg h, if_pos hk]
theorem cnt_off (p : Int → Bool) (f t : Int) (hf : 0 ≤ f) (hft : f ≤ t) (ha : ∀ i, f ≤ i → i < t → p i = true) (k : Nat) : cnt (setP p f t false) k = cnt p k - ov f t k := by
  induction k with
  | zero => rw [ov_zero hf]; rfl
  | succ k ih =>
    rw [cnt, ih, cnt, ov_succ hft]
    unfold setP
    by_cases h1 : f ≤ (k : Int) ∧ (k : Int) < t
    · rw [if_pos h1, if_pos h1, ha k h1.1 h1.2]; simp; omega
    · rw [if_neg h1, if_neg h1]; omega
theorem cnt_on (p : Int → Bool) (f t : Int) (hf : 0 ≤ f) (hft : f ≤ t) (ha : ∀ i, f ≤ i → i < t → p i = false) (k : Nat) : cnt (setP p f t true) k = cnt p k + ov f t k := by
  induction k with
  | zero => rw [ov_zero hf]; rfl
  | succ k ih =>
    rw [cnt, ih, cnt, ov_succ hft]
    unfold setP
    by_cases h1 : f ≤ (k : Int) ∧ (k : Int) < t
    · rw [if_pos h1, if_pos h1, ha k h1.1 h1.2]; simp; omega
    · rw [if_neg h1, if_neg h1]; omega
theorem cnt_take {s : St} {r : Rg} (h : mayE s r = 0) (ha : All s r true) : cnt (set s r false).p (set s r false).n = cnt s.p s.n - (r.t - r.f) := by
  obtain ⟨h1, h2, h3⟩ := mayE_zero h
  show cnt (setP s.p r.f r.t false) s.n = _
  rw [cnt_off s.p r.f r.t h2 (by omega) ha s.n, ov_end (by omega) h3]
theorem cnt_give {s : St} {r : Rg} (h : mayE s r = 0) (ha : All s r false) : cnt (set s r true).p (set s r true).n = cnt s.p s.n + (r.t - r.f) := by
  obtain ⟨h1, h2, h3⟩ := mayE_zero h
  show cnt (setP s.p r.f r.t true) s.n = _
  rw [cnt_on s.p r.f r.t h2 (by omega) ha s.n, ov_end (by omega) h3]
end Go.Proofs.Ytlffgfkcgldekaa
