/-
  An acceptor as plain data: what it promised, and its votes by slots; what its calls leave; its bytes, and what is read of bytes.
-/
import Derived.Test.YtacbodojbekeeaaDoorVote
namespace Go.Proofs.YtacbodojbekeeaaDoor
open Go.RowKit Go.Lib Go.PlainAid

/-- Is b a ballot? -/
def isB (b : Int) : Prop := 1 ≤ b ∧ b ≤ 1099511627776
instance (b : Int) : Decidable (isB b) := by unfold isB; infer_instance
/-- The votes stand by slots, from lo on. -/
def Srt : Int → List V → Prop
  | _, [] => True
  | lo, v :: l => lo ≤ v.s ∧ v.s < 4096 ∧ Srt (v.s + 1) l
theorem Srt.mono {lo lo' : Int} {l : List V} (h : Srt lo l) (hl : lo' ≤ lo) : Srt lo' l := by
  cases l with
  | nil => trivial
  | cons v l => exact ⟨Int.le_trans hl h.1, h.2⟩
theorem Srt.mem {lo : Int} {l : List V} (h : Srt lo l) : ∀ v ∈ l, lo ≤ v.s ∧ v.s < 4096 := by
  induction l generalizing lo with
  | nil => intro v hv; cases hv
  | cons u l ih =>
    intro v hv
    rcases List.mem_cons.1 hv with rfl | hv
    · exact ⟨h.1, h.2.1⟩
    · have h1 := ih h.2.2 v hv
      have h2 := h.1
      omega
theorem Srt.len {lo : Int} {l : List V} (h : Srt lo l) (h0 : lo ≤ 4096) : (l.length : Int) + lo ≤ 4096 := by
  induction l generalizing lo with
  | nil => simpa using h0
  | cons u l ih =>
    have h1 := ih h.2.2 (by have := h.2.1; omega)
    have := h.1
    simp only [List.length_cons]; omega
theorem Srt.tail {lo : Int} {v : V} {l : List V} (h : Srt lo (v :: l)) : Srt lo l := h.2.2.mono (by have := h.1; omega)
theorem Srt.append {lo : Int} {l : List V} {v : V} (h : Srt lo l) (h1 : ∀ u ∈ l, u.s < v.s) (h2 : lo ≤ v.s) (h3 : v.s < 4096) : Srt lo (l ++ [v]) := by
  induction l generalizing lo with
  | nil => exact ⟨h2, h3, trivial⟩
  | cons u l ih => exact ⟨h.1, h.2.1, ih h.2.2 (fun x hx => h1 x (List.mem_cons_of_mem _ hx)) (by have := h1 u List.mem_cons_self; omega)⟩

/-- The vote of slot i. -/
def lk (l : List V) (i : Int) : Option V := l.find? fun v => v.s == i
theorem lk_nil (i : Int) : lk [] i = none := rfl
theorem lk_cons (v : V) (l : List V) (i : Int) : lk (v :: l) i = if v.s = i then some v else lk l i := by
  unfold lk
  by_cases h : v.s = i
  · rw [if_pos h, List.find?_cons_of_pos (by simpa using h)]
  · rw [if_neg h, List.find?_cons_of_neg (by simpa using h)]
theorem lk_none {l : List V} {i : Int} (h : ∀ v ∈ l, v.s ≠ i) : lk l i = none := by
  induction l with
  | nil => rfl
  | cons v l ih => rw [lk_cons, if_neg (h v List.mem_cons_self)]; exact ih fun u hu => h u (List.mem_cons_of_mem _ hu)
theorem lk_slot {l : List V} {i : Int} {v : V} (h : lk l i = some v) : v.s = i ∧ v ∈ l := by
  refine ⟨by simpa using List.find?_some h, List.mem_of_find?_eq_some h⟩
/-- v is the vote of its slot. -/
def ins (v : V) : List V → List V
  | [] => [v]
  | u :: l => if u.s < v.s then u :: ins v l else if u.s = v.s then v :: l else v :: u :: l
theorem lk_ins {lo : Int} {l : List V} (h : Srt lo l) (v : V) (i : Int) : lk (ins v l) i = if v.s = i then some v else lk l i := by
  induction l generalizing lo with
  | nil => rw [ins, lk_cons]
  | cons u l ih =>
    rw [ins]
    by_cases h1 : u.s < v.s
    · rw [if_pos h1, lk_cons, lk_cons, ih h.2.2]
      by_cases e1 : u.s = i
      · rw [if_pos e1, if_pos e1, if_neg (by omega)]
      · rw [if_neg e1, if_neg e1]
    · rw [if_neg h1]
      by_cases h2 : u.s = v.s
      · rw [if_pos h2, lk_cons, lk_cons]
        by_cases e1 : v.s = i
        · rw [if_pos e1, if_pos e1]
        · rw [if_neg e1, if_neg e1, if_neg (by omega)]
      · rw [if_neg h2, lk_cons]
theorem ins_srt {lo : Int} {l : List V} (h : Srt lo l) (v : V) (h1 : lo ≤ v.s) (h2 : v.s < 4096) : Srt lo (ins v l) := by
  induction l generalizing lo with
  | nil => exact ⟨h1, h2, trivial⟩
  | cons u l ih =>
    rw [ins]
    by_cases g1 : u.s < v.s
    · rw [if_pos g1]; exact ⟨h.1, h.2.1, ih h.2.2 (by omega)⟩
    · rw [if_neg g1]
      by_cases g2 : u.s = v.s
      · rw [if_pos g2]; exact ⟨h1, h2, by rw [← g2]; exact h.2.2⟩
      · rw [if_neg g2]; exact ⟨h1, h2, by omega, h.2.1, h.2.2⟩
theorem ins_mem {l : List V} {v u : V} (h : u ∈ ins v l) : u = v ∨ u ∈ l := by
  induction l with
  | nil => rw [ins] at h; exact .inl (by simpa using h)
  | cons x l ih =>
    rw [ins] at h
    split at h
    · rcases List.mem_cons.1 h with rfl | h
      · exact .inr List.mem_cons_self
      · rcases ih h with h | h
        · exact .inl h
        · exact .inr (List.mem_cons_of_mem _ h)
    · split at h
      · rcases List.mem_cons.1 h with rfl | h
        · exact .inl rfl
        · exact .inr (List.mem_cons_of_mem _ h)
      · rcases List.mem_cons.1 h with rfl | h
        · exact .inl rfl
        · exact .inr h
theorem ins_below {l r : List V} {v : V} (h : ∀ u ∈ l, u.s < v.s) : ins v (l ++ r) = l ++ ins v r := by
  induction l with
  | nil => rfl
  | cons u l ih => rw [List.cons_append, ins, if_pos (h u List.mem_cons_self), ih fun x hx => h x (List.mem_cons_of_mem _ hx), List.cons_append]
theorem ins_above {l r : List V} {v : V} (h : ∃ u ∈ l, v.s ≤ u.s) : ins v (l ++ r) = ins v l ++ r := by
  induction l with
  | nil => obtain ⟨u, hu, _⟩ := h; cases hu
  | cons u l ih =>
    rw [List.cons_append, ins, ins]
    by_cases h1 : u.s < v.s
    · rw [if_pos h1, if_pos h1, ih, List.cons_append]
      obtain ⟨x, hx, hv⟩ := h
      rcases List.mem_cons.1 hx with rfl | hx
      · omega
      · exact ⟨x, hx, hv⟩
    · rw [if_neg h1, if_neg h1]
      split <;> simp
theorem ins_end {l : List V} {v : V} (h : ∀ u ∈ l, u.s < v.s) : ins v l = l ++ [v] := by
  have := ins_below (r := []) h
  simpa [ins] using this

/-- The votes from slot lo on, below slot hi. -/
def sub (l : List V) (lo hi : Int) : List V := l.filter fun v => decide (lo ≤ v.s) && decide (v.s < hi)
theorem sub_cons (v : V) (l : List V) (lo hi : Int) : sub (v :: l) lo hi = if lo ≤ v.s ∧ v.s < hi then v :: sub l lo hi else sub l lo hi := by
  unfold sub
  rw [List.filter_cons]
  by_cases h : lo ≤ v.s ∧ v.s < hi
  · rw [if_pos h, if_pos (by simp [h.1, h.2])]
  · rw [if_neg h, if_neg (by simpa using h)]
theorem sub_none {l : List V} {lo hi : Int} (h : ∀ v ∈ l, ¬ (lo ≤ v.s ∧ v.s < hi)) : sub l lo hi = [] := by
  unfold sub
  rw [List.filter_eq_nil_iff]
  intro v hv
  simpa using h v hv
theorem sub_more {b : Int} {l : List V} (h : Srt b l) (lo k : Int) (hk : lo ≤ k) : sub l lo (k + 1) = sub l lo k ++ (lk l k).toList := by
  induction l generalizing b with
  | nil => rfl
  | cons v l ih =>
    have hm := h.2.2.mem
    rw [sub_cons, sub_cons, lk_cons]
    by_cases e : v.s = k
    · rw [if_pos e, if_pos (by omega), if_neg (by omega), sub_none (fun u hu => by have := (hm u hu).1; omega), sub_none (fun u hu => by have := (hm u hu).1; omega)]
      rfl
    · rw [if_neg e]
      by_cases e1 : lo ≤ v.s ∧ v.s < k
      · rw [if_pos e1, if_pos (by omega), ih h.2.2, List.cons_append]
      · rw [if_neg e1, if_neg (by omega), ih h.2.2]
theorem sub_all {b : Int} {l : List V} (h : Srt b l) (m : Int) : sub l m 4096 = l.filter fun v => decide (m ≤ v.s) := by
  unfold sub
  apply List.filter_congr
  intro v hv
  have := (h.mem v hv).2
  simp [this]
/-- The votes of slots from f on. -/
def from_ (l : List V) (f : Int) : List V := l.filter fun v => decide (f ≤ v.s)
theorem from_sub {l : List V} (h : Srt 0 l) (f : Int) : sub l (min (max f 0) 4096) 4096 = from_ l f := by
  rw [sub_all h]
  unfold from_
  apply List.filter_congr
  intro v hv
  have := h.mem v hv
  congr 1
  simp only [eq_iff_iff]
  omega
theorem from_zero {l : List V} (h : Srt 0 l) : from_ l 0 = l := by
  unfold from_
  rw [List.filter_eq_self]
  intro v hv
  have := (h.mem v hv).1
  simpa using this
theorem from_len (l : List V) (f : Int) : (from_ l f).length ≤ l.length := List.length_filter_le _ _

/-- What it promised, and its votes. -/
structure Acc where
  p : Int
  l : List V
def Acc.new : Acc := ⟨0, []⟩
structure Acc.Good (A : Acc) : Prop where
  p0 : 0 ≤ A.p
  p1 : A.p ≤ 1099511627776
  srt : Srt 0 A.l
  ok : ∀ v ∈ A.l, 1 ≤ v.b ∧ v.b ≤ A.p ∧ v.x.size ≤ 1024
theorem Acc.Good.len {A : Acc} (h : A.Good) : A.l.length ≤ 4096 := by have := h.srt.len (by omega); omega
theorem Acc.Good.new : Acc.new.Good := ⟨by decide, by decide, trivial, fun v hv => by cases hv⟩
/-- What Prepare answers, and leaves. -/
def prepE (A : Acc) (b : Int) : Int := if isB b then (if b < A.p then 5 else 0) else 1
def Acc.prep (A : Acc) (b : Int) : Acc := if prepE A b = 0 then ⟨b, A.l⟩ else A
def prepL (A : Acc) (b f : Int) : List V := if prepE A b = 0 then from_ A.l f else []
/-- What is wrong with a vote, whoever's. -/
def wrongE (v : V) : Int := if 0 ≤ v.s ∧ v.s < 4096 ∧ isB v.b then (if 1024 < v.x.size then 11 else 0) else 1
def accE (A : Acc) (v : V) : Int := if wrongE v = 0 then (if v.b < A.p then 5 else 0) else wrongE v
def Acc.accept (A : Acc) (v : V) : Acc := if accE A v = 0 then ⟨v.b, ins v A.l⟩ else A
theorem wrongE_zero {v : V} : wrongE v = 0 ↔ 0 ≤ v.s ∧ v.s < 4096 ∧ isB v.b ∧ v.x.size ≤ 1024 := by
  unfold wrongE
  split
  · rename_i h
    split
    · constructor
      · intro h; cases h
      · rintro ⟨-, -, -, h⟩; omega
    · exact ⟨fun _ => ⟨h.1, h.2.1, h.2.2, by omega⟩, fun _ => rfl⟩
  · rename_i h
    constructor
    · intro h; cases h
    · rintro ⟨h1, h2, h3, -⟩; exact absurd ⟨h1, h2, h3⟩ h
theorem accE_zero {A : Acc} {v : V} : accE A v = 0 ↔ wrongE v = 0 ∧ A.p ≤ v.b := by
  unfold accE
  split
  · rename_i h
    split
    · constructor
      · intro h; cases h
      · rintro ⟨-, h⟩; omega
    · exact ⟨fun _ => ⟨h, by omega⟩, fun _ => rfl⟩
  · rename_i h
    exact ⟨fun h' => absurd h' h, fun h' => absurd h'.1 h⟩
theorem prepE_zero {A : Acc} {b : Int} : prepE A b = 0 ↔ isB b ∧ A.p ≤ b := by
  unfold prepE
  split
  · rename_i h
    split
    · constructor
      · intro h; cases h
      · rintro ⟨-, h⟩; omega
    · exact ⟨fun _ => ⟨h, by omega⟩, fun _ => rfl⟩
  · rename_i h
    constructor
    · intro h; cases h
    · rintro ⟨h1, -⟩; exact absurd h1 h
theorem Acc.Good.prep {A : Acc} (h : A.Good) (b : Int) : (A.prep b).Good := by
  unfold Acc.prep
  split
  · rename_i he
    obtain ⟨h1, h2⟩ := prepE_zero.1 he
    exact ⟨by have := h1.1; show 0 ≤ b; omega, h1.2, h.srt, fun v hv => by have := h.ok v hv; exact ⟨this.1, by show v.b ≤ b; omega, this.2.2⟩⟩
  · exact h
theorem Acc.Good.accept {A : Acc} (h : A.Good) (v : V) : (A.accept v).Good := by
  unfold Acc.accept
  split
  · rename_i he
    obtain ⟨h1, h2⟩ := accE_zero.1 he
    obtain ⟨s0, s1, hb, hx⟩ := wrongE_zero.1 h1
    refine ⟨by have := hb.1; show 0 ≤ v.b; omega, hb.2, ins_srt h.srt v s0 s1, fun u hu => ?_⟩
    rcases ins_mem hu with rfl | hu
    · exact ⟨hb.1, Int.le_refl _, hx⟩
    · have := h.ok u hu
      exact ⟨this.1, by show u.b ≤ v.b; omega, this.2.2⟩
  · exact h

/-! ### bytes -/
/-- A vote's bytes. -/
def encV (v : V) : List Int := leb v.s 2 ++ leb v.b 8 ++ (leb (v.x.size : Int) 2 ++ nums v.x)
def encL (l : List V) : List Int := l.flatMap encV
def bodyOf (A : Acc) : List Int := leb A.p 8 ++ leb (A.l.length : Int) 2 ++ encL A.l
def sealOf (t : ByteArray) : ByteArray := t ++ four (sumOf t)
/-- What an acceptor is saved as. -/
def saveOf (A : Acc) : ByteArray := sealOf (strOfNums (bodyOf A))
theorem encV_len (v : V) : (encV v).length = 12 + v.x.size := by
  unfold encV
  rw [List.length_append, List.length_append, List.length_append, leb_len _ _ (by omega), leb_len _ _ (by omega), leb_len _ _ (by omega), nums_length]; omega
theorem encL_len (l : List V) (h : ∀ v ∈ l, v.x.size ≤ 1024) : (encL l).length ≤ l.length * 1036 := by
  induction l with
  | nil => simp [encL]
  | cons v l ih =>
    have h1 := ih fun u hu => h u (List.mem_cons_of_mem _ hu)
    have h2 := h v List.mem_cons_self
    unfold encL at h1 ⊢
    rw [List.flatMap_cons, List.length_append, encV_len, List.length_cons]; omega
theorem encL_snoc (l : List V) (v : V) : encL (l ++ [v]) = encL l ++ encV v := by simp [encL]
theorem byt_encV (v : V) : Byt (encV v) := ((byt_leb _ _).app (byt_leb _ _)).app ((byt_leb _ _).app (byt_nums _))
theorem byt_encL (l : List V) : Byt (encL l) := by
  intro x hx
  obtain ⟨v, _, hv⟩ := List.mem_flatMap.1 hx
  exact byt_encV v x hv
theorem Acc.Good.body_len {A : Acc} (h : A.Good) : (bodyOf A).length ≤ 4243466 := by
  have h1 := encL_len A.l fun v hv => (h.ok v hv).2.2
  have h2 := h.len
  unfold bodyOf
  rw [List.length_append, List.length_append, leb_len _ _ (by omega), leb_len _ _ (by omega)]
  omega
theorem nums_drop (t : ByteArray) (a : Nat) : nums (t.extract a t.size) = (nums t).drop a := by
  have h := extract_rest (nums t) a
  rw [str_nums] at h
  rw [h]
  unfold nums strOfNums
  simp only [List.map_map, List.map_drop]
  congr 1
  apply List.map_congr_left
  intro c _
  simp
theorem nums_extract (t : ByteArray) (a e : Nat) : nums (t.extract a e) = ((nums t).drop a).take (e - a) := by
  have h := extract_str (nums t) a e
  rw [str_nums] at h
  rw [h]
  unfold nums strOfNums
  simp only [List.map_map, List.map_drop, List.map_take]
  congr 2
  apply List.map_congr_left
  intro c _
  simp
theorem nums_get (s : ByteArray) (i : Nat) (h : i < s.size) : (nums s)[i]? = some (bt s i) := by
  have hb := byt_nums s
  have hl : i < (nums s).length := by rw [nums_length]; exact h
  have := bt_str (nums s) hb i hl
  rw [str_nums] at this
  rw [this, List.getElem?_eq_getElem hl]
theorem take_bt (s : ByteArray) (k : Nat) (h : k ≤ s.size) : (nums s).take k = (List.range k).map (bt s) := by
  apply List.ext_getElem?
  intro j
  rw [List.getElem?_take, List.getElem?_map]
  by_cases hj : j < k
  · rw [if_pos hj, nums_get s j (by omega), List.getElem?_range hj]; rfl
  · rw [if_neg hj, List.getElem?_eq_none (by simp; omega)]; rfl
theorem leb_lev1 (s : ByteArray) : leb (lev s 1) 1 = (List.range 1).map (bt s) := by
  have g0 := bt_nonneg s 0
  have l0 := bt_le s 0
  simp only [leb, List.take, List.range, List.range.loop, List.map, lev]
  congr 1
  omega
theorem leb_lev2 (s : ByteArray) : leb (lev s 2) 2 = (List.range 2).map (bt s) := by
  have g0 := bt_nonneg s 0
  have l0 := bt_le s 0
  have g1 := bt_nonneg s 1
  have l1 := bt_le s 1
  simp only [leb, List.take, List.range, List.range.loop, List.map, lev]
  congr 1
  · omega
  · congr 1
    omega
theorem leb_lev8 (s : ByteArray) : leb (lev s 8) 8 = (List.range 8).map (bt s) := by
  have g0 := bt_nonneg s 0
  have l0 := bt_le s 0
  have g1 := bt_nonneg s 1
  have l1 := bt_le s 1
  have g2 := bt_nonneg s 2
  have l2 := bt_le s 2
  have g3 := bt_nonneg s 3
  have l3 := bt_le s 3
  have g4 := bt_nonneg s 4
  have l4 := bt_le s 4
  have g5 := bt_nonneg s 5
  have l5 := bt_le s 5
  have g6 := bt_nonneg s 6
  have l6 := bt_le s 6
  have g7 := bt_nonneg s 7
  have l7 := bt_le s 7
  simp only [leb, List.take, List.range, List.range.loop, List.map, lev]
  refine List.cons_eq_cons.2 ⟨by omega, List.cons_eq_cons.2 ⟨by omega, List.cons_eq_cons.2 ⟨by omega, List.cons_eq_cons.2 ⟨by omega, List.cons_eq_cons.2 ⟨by omega, List.cons_eq_cons.2 ⟨by omega, List.cons_eq_cons.2 ⟨by omega, List.cons_eq_cons.2 ⟨by omega, rfl⟩⟩⟩⟩⟩⟩⟩⟩
theorem take_more (l : List Int) (a b : Nat) : l.take a ++ (l.drop a).take b = l.take (a + b) := by
  rw [List.take_add]
theorem openOf_form {s : ByteArray} (h : (openOf s).2 = true) : (openOf s).1 ++ four (sumOf (openOf s).1) = s := by
  unfold openOf at h ⊢
  split at h
  · rename_i hc
    rw [if_pos hc]
    show s.extract 0 (s.size - 4) ++ _ = s
    rw [← hc.2]; exact parts s _
  · cases h
theorem drop_pre (a b : List Int) (n : Nat) (h : a.length = n) : (a ++ b).drop n = b := by
  subst h; simp

/-! ### what is read -/
/-- The number of k bytes at place a. -/
def numAt (t : ByteArray) (a k : Nat) : Option Int :=
  if t.size < a + k then none else if 9223372036854775807 < lev (t.extract a t.size) k then none else some (lev (t.extract a t.size) k)
/-- The text at place a. -/
def textAt (t : ByteArray) (a : Nat) : Option ByteArray :=
  if t.size < a + 2 then none else if 1024 < lev (t.extract a t.size) 2 then none
  else if t.size < a + 2 + (lev (t.extract a t.size) 2).toNat then none else some (t.extract (a + 2) (a + 2 + (lev (t.extract a t.size) 2).toNat))
/-- The vote at place a. -/
def voteAt (t : ByteArray) (a : Nat) : Option V :=
  match numAt t a 2 with
  | none => none
  | some s => match numAt t (a + 2) 8 with
    | none => none
    | some b => match textAt t (a + 10) with
      | none => none
      | some x => some ⟨s, b, x⟩
/-- May v stand behind slot 'last', where p was promised? -/
def may (p last : Int) (v : V) : Prop := last < v.s ∧ v.s < 4096 ∧ 1 ≤ v.b ∧ v.b ≤ p
instance (p last : Int) (v : V) : Decidable (may p last v) := by unfold may; infer_instance
/-- n votes from place a on, to the end. -/
def rd (t : ByteArray) (p : Int) : Nat → Nat → Int → Option (List V)
  | 0, a, _ => if a = t.size then some [] else none
  | n + 1, a, last => match voteAt t a with
    | none => none
    | some v => if may p last v then (rd t p n (a + 12 + v.x.size) v.s).map (v :: ·) else none
def parse (t : ByteArray) : Option Acc :=
  match numAt t 0 8 with
  | none => none
  | some p => if p ≤ 1099511627776 then (match numAt t 8 2 with
    | none => none
    | some n => (rd t p n.toNat 10 (-1)).map (Acc.mk p)) else none
def loadOf (s : ByteArray) : Option Acc := if (openOf s).2 = true then parse (openOf s).1 else none

theorem lev_nonneg' (s : ByteArray) : ∀ k, 0 ≤ lev s k
  | 0 => by simp [lev]
  | k + 1 => by
    simp only [lev]
    exact Int.add_nonneg (lev_nonneg' s k) (Int.mul_nonneg (bt_nonneg s k) (Int.pow_nonneg (by decide)))
theorem numAt_some {t : ByteArray} {a k : Nat} {n : Int} (h : numAt t a k = some n) : a + k ≤ t.size ∧ n = lev (t.extract a t.size) k ∧ 0 ≤ n ∧ n ≤ 9223372036854775807 := by
  unfold numAt at h
  split at h
  · cases h
  · split at h
    · cases h
    · injection h with h
      have := lev_nonneg' (t.extract a t.size) k
      exact ⟨by omega, h.symm, by omega, by omega⟩
theorem numAt_bytes2 {t : ByteArray} {a : Nat} {n : Int} (h : numAt t a 2 = some n) : leb n 2 = ((nums t).drop a).take 2 := by
  obtain ⟨h1, rfl, -, -⟩ := numAt_some h
  rw [leb_lev2, ← nums_drop, ← take_bt _ _ (by rw [ByteArray.size_extract]; omega)]
theorem numAt_bytes8 {t : ByteArray} {a : Nat} {n : Int} (h : numAt t a 8 = some n) : leb n 8 = ((nums t).drop a).take 8 := by
  obtain ⟨h1, rfl, -, -⟩ := numAt_some h
  rw [leb_lev8, ← nums_drop, ← take_bt _ _ (by rw [ByteArray.size_extract]; omega)]
theorem numAt_lt2 {t : ByteArray} {a : Nat} {n : Int} (h : numAt t a 2 = some n) : n ≤ 65535 := by
  obtain ⟨h1, rfl, -, -⟩ := numAt_some h
  exact (lev2_bounds _).2
theorem textAt_some {t : ByteArray} {a : Nat} {x : ByteArray} (h : textAt t a = some x) : a + 2 + x.size ≤ t.size ∧ x.size ≤ 1024 ∧ leb (x.size : Int) 2 ++ nums x = ((nums t).drop a).take (2 + x.size) := by
  unfold textAt at h
  split at h
  · cases h
  · split at h
    · cases h
    · split at h
      · cases h
      · rename_i h1 h2 h3
        injection h with h
        subst h
        have h0 := lev2_bounds (t.extract a t.size)
        have hs : (t.extract (a + 2) (a + 2 + (lev (t.extract a t.size) 2).toNat)).size = (lev (t.extract a t.size) 2).toNat := by rw [ByteArray.size_extract]; omega
        rw [hs]
        refine ⟨by omega, by omega, ?_⟩
        have e1 : (((lev (t.extract a t.size) 2).toNat : Nat) : Int) = lev (t.extract a t.size) 2 := by omega
        rw [e1, leb_lev2, ← take_bt _ _ (by rw [ByteArray.size_extract]; omega), nums_drop, nums_extract, List.take_add, List.drop_drop]
        congr 2
        omega
theorem voteAt_some {t : ByteArray} {a : Nat} {v : V} (h : voteAt t a = some v) : numAt t a 2 = some v.s ∧ numAt t (a + 2) 8 = some v.b ∧ textAt t (a + 10) = some v.x := by
  unfold voteAt at h
  cases h1 : numAt t a 2 with
  | none => rw [h1] at h; cases h
  | some s =>
    cases h2 : numAt t (a + 2) 8 with
    | none => rw [h1, h2] at h; cases h
    | some b =>
      cases h3 : textAt t (a + 10) with
      | none => rw [h1, h2, h3] at h; cases h
      | some x => rw [h1, h2, h3] at h; injection h with h; subst h; exact ⟨rfl, rfl, rfl⟩
theorem voteAt_bytes {t : ByteArray} {a : Nat} {v : V} (h : voteAt t a = some v) : a + 12 + v.x.size ≤ t.size ∧ v.x.size ≤ 1024 ∧ 0 ≤ v.s ∧ encV v = ((nums t).drop a).take (12 + v.x.size) := by
  obtain ⟨h1, h2, h3⟩ := voteAt_some h
  obtain ⟨k1, k2, k3⟩ := textAt_some h3
  refine ⟨by omega, k2, (numAt_some h1).2.2.1, ?_⟩
  unfold encV
  obtain ⟨m, hm⟩ : ∃ m, m = 2 + v.x.size := ⟨_, rfl⟩
  rw [← hm] at k3
  have e10 : ((nums t).drop a).take 10 = ((nums t).drop a).take 2 ++ ((nums t).drop (a + 2)).take 8 := by rw [← List.drop_drop, take_more]
  rw [numAt_bytes2 h1, numAt_bytes8 h2, k3, show 12 + v.x.size = 10 + m by omega, List.take_add, e10, List.drop_drop]
theorem rd_bytes {t : ByteArray} {p : Int} {n a : Nat} {last : Int} {l : List V} (ha : a ≤ t.size) (h : rd t p n a last = some l) : l.length = n ∧ encL l = (nums t).drop a ∧ Srt (last + 1) l ∧ ∀ v ∈ l, 0 ≤ v.s ∧ 1 ≤ v.b ∧ v.b ≤ p ∧ v.x.size ≤ 1024 := by
  induction n generalizing a last l with
  | zero =>
    rw [rd] at h
    split at h
    · rename_i e
      injection h with h
      subst h
      refine ⟨rfl, ?_, trivial, fun v hv => by cases hv⟩
      rw [List.drop_of_length_le (by rw [nums_length]; omega)]; rfl
    · cases h
  | succ n ih =>
    rw [rd] at h
    cases hv : voteAt t a with
    | none => rw [hv] at h; cases h
    | some v =>
      rw [hv] at h
      simp only at h
      split at h
      · rename_i hm
        cases hr : rd t p n (a + 12 + v.x.size) v.s with
        | none => rw [hr] at h; cases h
        | some l' =>
          rw [hr] at h
          injection h with h
          subst h
          obtain ⟨b1, b2, b3, b4⟩ := voteAt_bytes hv
          obtain ⟨i1, i2, i3, i4⟩ := ih b1 hr
          refine ⟨by rw [List.length_cons, i1], ?_, ⟨by have := hm.1; omega, hm.2.1, i3⟩, fun u hu => ?_⟩
          · show encV v ++ encL l' = _
            rw [b4, i2, show a + 12 + v.x.size = a + (12 + v.x.size) by omega, ← List.drop_drop, List.take_append_drop]
          · rcases List.mem_cons.1 hu with rfl | hu
            · exact ⟨b3, hm.2.2.1, hm.2.2.2, b2⟩
            · exact i4 u hu
      · cases h
/-- What is read is an acceptor, with just these bytes. -/
theorem parse_some {t : ByteArray} {A : Acc} (h : parse t = some A) : A.Good ∧ strOfNums (bodyOf A) = t := by
  unfold parse at h
  cases h1 : numAt t 0 8 with
  | none => rw [h1] at h; cases h
  | some p =>
    rw [h1] at h
    simp only at h
    split at h
    · rename_i hp
      cases h2 : numAt t 8 2 with
      | none => rw [h2] at h; cases h
      | some n =>
        rw [h2] at h
        simp only at h
        cases h3 : rd t p n.toNat 10 (-1) with
        | none => rw [h3] at h; cases h
        | some l =>
          rw [h3] at h
          injection h with h
          subst h
          obtain ⟨n1, n2, n3, n4⟩ := numAt_some h1
          obtain ⟨m1, m2, m3, m4⟩ := numAt_some h2
          obtain ⟨r1, r2, r3, r4⟩ := rd_bytes (by omega) h3
          refine ⟨⟨n3, hp, r3, fun v hv => (r4 v hv).2⟩, ?_⟩
          have e : bodyOf ⟨p, l⟩ = nums t := by
            unfold bodyOf
            show leb p 8 ++ leb (l.length : Int) 2 ++ encL l = nums t
            rw [r1, show ((n.toNat : Nat) : Int) = n by omega, numAt_bytes8 h1, numAt_bytes2 h2, r2, List.drop_zero, take_more, List.take_append_drop]
          rw [e, str_nums]
    · cases h

/-! ### what was written is read -/
theorem numAt_str (pre post : List Int) (n : Int) (k a : Nat) (t : ByteArray) (ht : t = strOfNums (pre ++ (leb n k ++ post))) (ha : pre.length = a) (hf : Fits n (k : Int)) (hk : k ≤ 8) (hp : Byt post) : numAt t a k = some n := by
  have hs : t.size = a + k + post.length := by rw [ht, strOfNums_size, List.length_append, List.length_append, leb_len n k hk, ha]; omega
  have hv : lev (t.extract a t.size) k = n := by
    rw [ht, extract_rest, drop_pre _ _ _ ha]
    exact lev_leb n (k : Int) post hf hp
  have hn : n ≤ 9223372036854775807 := by unfold Fits at hf; omega
  unfold numAt
  rw [hv, if_neg (by omega), if_neg (by omega)]
theorem textAt_str (pre post : List Int) (x : ByteArray) (a : Nat) (t : ByteArray) (ht : t = strOfNums (pre ++ (leb (x.size : Int) 2 ++ nums x ++ post))) (ha : pre.length = a) (hx : x.size ≤ 1024) (hp : Byt post) : textAt t a = some x := by
  have hs : t.size = a + 2 + x.size + post.length := by
    rw [ht, strOfNums_size, List.length_append, List.length_append, List.length_append, leb_len _ 2 (by omega), nums_length, ha]; omega
  have hv : lev (t.extract a t.size) 2 = (x.size : Int) := by
    rw [ht, extract_rest, drop_pre _ _ _ ha, List.append_assoc]
    exact lev_leb _ 2 _ (by unfold Fits; omega) ((byt_nums _).app hp)
  unfold textAt
  rw [hv, if_neg (by omega), if_neg (by omega), if_neg (by omega)]
  congr 1
  rw [Int.toNat_natCast, ht, extract_str, ← List.drop_drop, drop_pre _ _ _ ha, List.append_assoc, drop_pre _ _ 2 (leb_len _ 2 (by omega)), show a + 2 + x.size - (a + 2) = x.size by omega]
  rw [List.take_append_of_le_length (by rw [nums_length]; omega), List.take_of_length_le (by rw [nums_length]; omega), str_nums]
theorem voteAt_str (pre post : List Int) (v : V) (a : Nat) (t : ByteArray) (ht : t = strOfNums (pre ++ (encV v ++ post))) (ha : pre.length = a) (hs0 : 0 ≤ v.s) (hs1 : v.s < 4096) (hb0 : 0 ≤ v.b) (hb1 : v.b ≤ 1099511627776) (hx : v.x.size ≤ 1024) (hp : Byt post) : voteAt t a = some v := by
  have h1 : numAt t a 2 = some v.s := numAt_str pre (leb v.b 8 ++ (leb (v.x.size : Int) 2 ++ nums v.x) ++ post) v.s 2 a t (by rw [ht]; unfold encV; simp [List.append_assoc]) ha (by unfold Fits; omega) (by omega) (((byt_leb _ _).app ((byt_leb _ _).app (byt_nums _))).app hp)
  have h2 : numAt t (a + 2) 8 = some v.b := numAt_str (pre ++ leb v.s 2) (leb (v.x.size : Int) 2 ++ nums v.x ++ post) v.b 8 (a + 2) t (by rw [ht]; unfold encV; simp [List.append_assoc]) (by rw [List.length_append, leb_len _ _ (by omega), ha]) (by unfold Fits; omega) (by omega) (((byt_leb _ _).app (byt_nums _)).app hp)
  have h3 : textAt t (a + 10) = some v.x := textAt_str (pre ++ leb v.s 2 ++ leb v.b 8) post v.x (a + 10) t (by rw [ht]; unfold encV; simp [List.append_assoc]) (by rw [List.length_append, List.length_append, leb_len _ _ (by omega), leb_len _ _ (by omega), ha]) hx hp
  unfold voteAt
  rw [h1, h2, h3]
theorem rd_str (p : Int) (hp : p ≤ 1099511627776) (t : ByteArray) : ∀ (l : List V) (pre : List Int) (a : Nat) (last : Int), t = strOfNums (pre ++ encL l) → pre.length = a → Srt (last + 1) l → (∀ v ∈ l, 0 ≤ v.s ∧ 1 ≤ v.b ∧ v.b ≤ p ∧ v.x.size ≤ 1024) → rd t p l.length a last = some l
  | [], pre, a, last, ht, ha, _, _ => by
    have hs : t.size = a := by rw [ht, strOfNums_size]; simpa [encL] using ha
    show (if a = t.size then _ else _) = _
    rw [if_pos hs.symm]
  | v :: l, pre, a, last, ht, ha, hs, ho => by
    obtain ⟨o1, o2, o3, o4⟩ := ho v List.mem_cons_self
    have hv := voteAt_str pre (encL l) v a t (by rw [ht]; rfl) ha o1 hs.2.1 (by omega) (by omega) o4 (byt_encL l)
    have hr := rd_str p hp t l (pre ++ encV v) (a + 12 + v.x.size) v.s (by rw [ht, List.append_assoc]; rfl) (by rw [List.length_append, encV_len, ha]; omega) hs.2.2 (fun u hu => ho u (List.mem_cons_of_mem _ hu))
    rw [List.length_cons, rd, hv]
    simp only
    rw [if_pos ⟨by have := hs.1; omega, hs.2.1, o2, o3⟩, hr]; rfl
theorem parse_body {A : Acc} (h : A.Good) : parse (strOfNums (bodyOf A)) = some A := by
  have h0 := h.p0
  have h1 := h.p1
  have h2 := h.len
  have n1 : numAt (strOfNums (bodyOf A)) 0 8 = some A.p := numAt_str [] (leb (A.l.length : Int) 2 ++ encL A.l) A.p 8 0 _ (by unfold bodyOf; simp [List.append_assoc]) rfl (by unfold Fits; omega) (by omega) ((byt_leb _ _).app (byt_encL _))
  have n2 : numAt (strOfNums (bodyOf A)) 8 2 = some (A.l.length : Int) := numAt_str (leb A.p 8) (encL A.l) (A.l.length : Int) 2 8 _ (by unfold bodyOf; simp [List.append_assoc]) (leb_len _ _ (by omega)) (by unfold Fits; omega) (by omega) (byt_encL _)
  have n3 := rd_str A.p h1 (strOfNums (bodyOf A)) A.l (leb A.p 8 ++ leb (A.l.length : Int) 2) 10 (-1) rfl (by rw [List.length_append, leb_len _ _ (by omega), leb_len _ _ (by omega)]) (h.srt.mono (by omega)) (fun v hv => ⟨(h.srt.mem v hv).1, h.ok v hv⟩)
  unfold parse
  rw [n1]
  simp only
  rw [if_pos h1, n2]
  simp only
  rw [Int.toNat_natCast, n3]; rfl
/-- What is saved is loaded. -/
theorem load_save {A : Acc} (h : A.Good) : loadOf (saveOf A) = some A := by
  unfold loadOf saveOf sealOf
  rw [openOf_yes, if_pos rfl]
  exact parse_body h
/-- What is loaded is saved as it was. -/
theorem load_some {s : ByteArray} {A : Acc} (h : loadOf s = some A) : A.Good ∧ saveOf A = s := by
  unfold loadOf at h
  split at h
  · rename_i ho
    obtain ⟨h1, h2⟩ := parse_some h
    refine ⟨h1, ?_⟩
    unfold saveOf sealOf
    rw [h2]
    exact openOf_form ho
  · cases h
theorem Acc.Good.save_size {A : Acc} (h : A.Good) : (saveOf A).size ≤ 4243470 := by
  unfold saveOf sealOf
  rw [ByteArray.size_append, strOfNums_size, four_size]
  have := h.body_len
  omega
end Go.Proofs.YtacbodojbekeeaaDoor
