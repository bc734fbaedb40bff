/-
  Servers: one that comes, one that goes, who takes its place, as plain data.
-/
import Derived.Test.YthjinpbclfankaaGreatDoorCfg
namespace Go.Proofs.YthjinpbclfankaaGreatDoor
open Go.RowKit

theorem srvOk_iff (last : Int) (l : List Int) : srvOk last l = true ↔ (∀ x ∈ l, 0 ≤ x ∧ x < 8 ∧ last < x) ∧ l.Pairwise (· < ·) := by
  induction l generalizing last with
  | nil => simp [srvOk]
  | cons y l ih =>
    simp only [srvOk, Bool.and_eq_true, decide_eq_true_eq, ih, List.pairwise_cons]
    constructor
    · rintro ⟨h1, h2, h3⟩
      refine ⟨fun x hx => ?_, fun x hx => (h2 x hx).2.2, h3⟩
      rcases List.mem_cons.1 hx with rfl | hx
      · exact h1
      · have := h2 x hx; omega
    · rintro ⟨h1, h2, h3⟩
      exact ⟨h1 y (by simp), fun x hx => ⟨(h1 x (by simp [hx])).1, (h1 x (by simp [hx])).2.1, h2 x hx⟩, h3⟩
theorem srvOk_iff' (l : List Int) : srvOk (-1) l = true ↔ (∀ x ∈ l, 0 ≤ x ∧ x < 8) ∧ l.Pairwise (· < ·) := by
  rw [srvOk_iff]
  constructor
  · rintro ⟨h1, h2⟩; exact ⟨fun x hx => ⟨(h1 x hx).1, (h1 x hx).2.1⟩, h2⟩
  · rintro ⟨h1, h2⟩; exact ⟨fun x hx => ⟨(h1 x hx).1, (h1 x hx).2, by have := (h1 x hx).1; omega⟩, h2⟩
/-- Two that rise and have the same numbers are one. -/
theorem rise_ext : ∀ (l m : List Int), l.Pairwise (· < ·) → m.Pairwise (· < ·) → (∀ x, x ∈ l ↔ x ∈ m) → l = m := by
  intro l
  induction l with
  | nil => intro m _ _ h; cases m with | nil => rfl | cons y m => exact absurd ((h y).2 (by simp)) (by simp)
  | cons x l ih =>
    intro m hl hm h
    cases m with
    | nil => exact absurd ((h x).1 (by simp)) (by simp)
    | cons y m =>
      rw [List.pairwise_cons] at hl hm
      have hxy : x = y := by
        have a := (h x).1 (by simp)
        have b := (h y).2 (by simp)
        rcases List.mem_cons.1 a with e | a
        · exact e
        · rcases List.mem_cons.1 b with e | b
          · exact e.symm
          · have := hm.1 x a; have := hl.1 y b; omega
      subst hxy
      rw [ih m hl.2 hm.2 fun z => ?_]
      have hz' := h z
      simp only [List.mem_cons] at hz'
      constructor
      · intro hz
        have := hl.1 z hz
        rcases hz'.1 (.inr hz) with e | h'
        · omega
        · exact h'
      · intro hz
        have := hm.1 z hz
        rcases hz'.2 (.inr hz) with e | h'
        · omega
        · exact h'
theorem split_lt (n : Int) : ∀ l : List Int, l.Pairwise (· < ·) → (∀ x ∈ l.take (l.countP (fun x => decide (x < n))), x < n) ∧ (∀ x ∈ l.drop (l.countP (fun x => decide (x < n))), n ≤ x) := by
  intro l
  induction l with
  | nil => intro _; simp
  | cons y l ih =>
    intro h
    rw [List.pairwise_cons] at h
    by_cases hy : y < n
    · rw [List.countP_cons_of_pos (by simpa using hy)]
      obtain ⟨a, b⟩ := ih h.2
      refine ⟨fun x hx => ?_, fun x hx => b x (by simpa using hx)⟩
      rw [List.take_succ_cons] at hx
      rcases List.mem_cons.1 hx with rfl | hx
      · exact hy
      · exact a x hx
    · have h0 : (y :: l).countP (fun x => decide (x < n)) = 0 := by
        rw [List.countP_eq_zero]
        intro x hx
        rcases List.mem_cons.1 hx with rfl | hx
        · simpa using hy
        · have := h.1 x hx
          simp; omega
      rw [h0]
      refine ⟨fun x hx => by simp at hx, fun x hx => ?_⟩
      rw [List.drop_zero] at hx
      rcases List.mem_cons.1 hx with rfl | hx
      · omega
      · have := h.1 x hx; omega
/-- The place of n among them. -/
def posS (l : List Int) (n : Int) : Nat := l.countP (fun x => decide (x < n))
def comeS (l : List Int) (n : Int) : List Int := l.take (posS l n) ++ n :: l.drop (posS l n)
def goneS (l : List Int) (n : Int) : List Int := l.filter (fun x => decide (x ≠ n))
theorem posS_le (l : List Int) (n : Int) : posS l n ≤ l.length := List.countP_le_length
theorem comeS_mem (l : List Int) (n x : Int) : x ∈ comeS l n ↔ x = n ∨ x ∈ l := by
  unfold comeS
  have e := List.take_append_drop (posS l n) l
  constructor
  · intro h
    rcases List.mem_append.1 h with h | h
    · exact .inr (List.mem_of_mem_take h)
    · rcases List.mem_cons.1 h with h | h
      · exact .inl h
      · exact .inr (List.mem_of_mem_drop h)
  · rintro (rfl | h)
    · simp
    · rw [← e] at h
      rcases List.mem_append.1 h with h | h
      · exact List.mem_append.2 (.inl h)
      · exact List.mem_append.2 (.inr (List.mem_cons_of_mem _ h))
theorem comeS_ok {l : List Int} {n : Int} (h : srvOk (-1) l = true) (hn : 0 ≤ n ∧ n < 8) (hno : n ∉ l) : srvOk (-1) (comeS l n) = true := by
  rw [srvOk_iff'] at h ⊢
  obtain ⟨h1, h2⟩ := h
  refine ⟨fun x hx => ?_, ?_⟩
  · rcases (comeS_mem l n x).1 hx with rfl | hx
    · exact hn
    · exact h1 x hx
  · obtain ⟨a, b⟩ := split_lt n l h2
    unfold comeS
    have e := List.take_append_drop (posS l n) l
    rw [← e, List.pairwise_append] at h2
    obtain ⟨p1, p2, p3⟩ := h2
    rw [List.pairwise_append, List.pairwise_cons]
    refine ⟨p1, ⟨fun x hx => ?_, p2⟩, fun x hx y hy => ?_⟩
    · have := b x hx
      have hne : x ≠ n := fun e => hno (by rw [← e]; exact List.mem_of_mem_drop hx)
      omega
    · have := a x hx
      rcases List.mem_cons.1 hy with rfl | hy
      · exact this
      · have := b y hy; omega
theorem comeS_len (l : List Int) (n : Int) : (comeS l n).length = l.length + 1 := by
  unfold comeS
  have := posS_le l n
  rw [List.length_append, List.length_cons, List.length_take, List.length_drop]; omega
theorem goneS_mem (l : List Int) (n x : Int) : x ∈ goneS l n ↔ x ∈ l ∧ x ≠ n := by unfold goneS; simp [List.mem_filter]
theorem goneS_ok {l : List Int} (n : Int) (h : srvOk (-1) l = true) : srvOk (-1) (goneS l n) = true := by
  rw [srvOk_iff'] at h ⊢
  exact ⟨fun x hx => h.1 x ((goneS_mem l n x).1 hx).1, h.2.filter _⟩
/-- One that is there goes out at its place. -/
theorem gone_at {l : List Int} {n : Int} (h : srvOk (-1) l = true) (hn : n ∈ l) : l.take (posS l n) ++ l.drop (posS l n + 1) = goneS l n ∧ l[posS l n]? = some n ∧ posS l n < l.length := by
  rw [srvOk_iff'] at h
  obtain ⟨-, h2⟩ := h
  obtain ⟨a, b⟩ := split_lt n l h2
  have e := List.take_append_drop (posS l n) l
  have hn' := hn
  rw [← e] at hn'
  have hd : n ∈ l.drop (posS l n) := by
    rcases List.mem_append.1 hn' with h | h
    · have := a n h; omega
    · exact h
  have h3 := h2
  rw [← e, List.pairwise_append] at h3
  obtain ⟨p1, p2, p3⟩ := h3
  cases hdl : l.drop (posS l n) with
  | nil => rw [hdl] at hd; cases hd
  | cons y m =>
    have hb : ∀ x ∈ y :: m, n ≤ x := fun x hx => b x (by show x ∈ l.drop (posS l n); rw [hdl]; exact hx)
    rw [hdl, List.pairwise_cons] at p2
    have hyn : y = n := by
      rw [hdl] at hd
      rcases List.mem_cons.1 hd with e | hd
      · exact e.symm
      · have := p2.1 n hd; have := hb y (by simp); omega
    subst hyn
    have hm : l.drop (posS l y + 1) = m := by rw [← List.drop_drop, hdl]; rfl
    have hget : l[posS l y]? = some y := by
      have : (l.drop (posS l y))[0]? = some y := by rw [hdl]; rfl
      rw [List.getElem?_drop] at this
      simpa using this
    refine ⟨?_, hget, (List.getElem?_eq_some_iff.1 hget).1⟩
    rw [hm]
    refine rise_ext _ _ ?_ (h2.filter _) fun x => ?_
    · rw [List.pairwise_append]
      exact ⟨p1, p2.2, fun u hu v hv => p3 u hu v (by rw [hdl]; exact List.mem_cons_of_mem _ hv)⟩
    · rw [goneS_mem]
      constructor
      · intro hx
        rcases List.mem_append.1 hx with hx | hx
        · have := a x hx; exact ⟨List.mem_of_mem_take hx, by omega⟩
        · have := p2.1 x hx
          exact ⟨List.mem_of_mem_drop (by rw [hdl]; exact List.mem_cons_of_mem _ hx), by omega⟩
      · rintro ⟨hx, hne⟩
        rw [← e] at hx
        rcases List.mem_append.1 hx with hx | hx
        · exact List.mem_append.2 (.inl hx)
        · rw [hdl] at hx
          rcases List.mem_cons.1 hx with hx | hx
          · exact absurd hx hne
          · exact List.mem_append.2 (.inr hx)
theorem goneS_len {l : List Int} {n : Int} (h : srvOk (-1) l = true) (hn : n ∈ l) : (goneS l n).length + 1 = l.length := by
  obtain ⟨a, -, c⟩ := gone_at h hn
  rw [← a, List.length_append, List.length_take, List.length_drop]; omega

/-! ### who takes its place -/
/-- The lowest that is neither of two. -/
def othS (l : List Int) (a b : Int) : Int := ((l.filter (fun x => decide (x ≠ a ∧ x ≠ b))).head?).getD a
theorem othS_ok {l : List Int} {a b : Int} (h : 3 ≤ l.length) (hl : l.Pairwise (· < ·)) : othS l a b ∈ l ∧ othS l a b ≠ a ∧ othS l a b ≠ b := by
  unfold othS
  cases hf : l.filter (fun x => decide (x ≠ a ∧ x ≠ b)) with
  | nil =>
    exfalso
    rw [List.filter_eq_nil_iff] at hf
    match l, h with
    | x :: y :: z :: l, _ =>
      have hh : ∀ u ∈ x :: y :: z :: l, u = a ∨ u = b := fun u hu => by
        have := hf u hu
        simp only [decide_eq_true_eq] at this
        omega
      have h1 := hh x (by simp)
      have h2 := hh y (by simp)
      have h3 := hh z (by simp)
      simp only [List.pairwise_cons, List.mem_cons] at hl
      have a1 := hl.1 y (.inl rfl)
      have a2 := hl.1 z (.inr (.inl rfl))
      have a3 := hl.2.1 z (.inl rfl)
      omega
  | cons x m =>
    have hx : x ∈ l.filter (fun x => decide (x ≠ a ∧ x ≠ b)) := by rw [hf]; simp
    rw [List.mem_filter] at hx
    simp only [decide_eq_true_eq] at hx
    exact hx
/-- The lowest of those that stay, but for the other copy. -/
def lowS (l : List Int) (o : Int) : Int := match l with
  | x :: y :: _ => if x ≠ o then x else y
  | _ => o
theorem low_oth {l : List Int} {n o : Int} (h : 2 ≤ (goneS l n).length) (hl : (goneS l n).Pairwise (· < ·)) : lowS (goneS l n) o = othS l n o := by
  have e : l.filter (fun x => decide (x ≠ n ∧ x ≠ o)) = (goneS l n).filter (fun x => decide (x ≠ o)) := by
    unfold goneS
    rw [List.filter_filter]
    congr 1
    funext x
    simp [Bool.and_comm]
  unfold othS
  rw [e]
  match hg : goneS l n, h with
  | x :: y :: m, _ =>
    rw [hg, List.pairwise_cons] at hl
    have := hl.1 y (by simp)
    show (if x ≠ o then x else y) = _
    by_cases hx : x = o
    · subst hx
      rw [if_neg (by simp), List.filter_cons_of_neg (by simp), List.filter_cons_of_pos (by simp; omega)]
      rfl
    · rw [if_pos hx, List.filter_cons_of_pos (by simpa using hx)]
      rfl
/-- What becomes of a block's copies, where a server goes. -/
def leaveC (l : List Int) (n : Int) (x : Int × Int) : Int × Int := if x.1 = n then (othS l n x.2, x.2) else if x.2 = n then (x.1, othS l n x.1) else x
theorem leaveC_ok {l : List Int} {n : Int} {x : Int × Int} (h : 3 ≤ l.length) (hl : l.Pairwise (· < ·)) (h1 : x.1 ∈ l) (h2 : x.2 ∈ l) (h3 : x.1 ≠ x.2) : (leaveC l n x).1 ∈ goneS l n ∧ (leaveC l n x).2 ∈ goneS l n ∧ (leaveC l n x).1 ≠ (leaveC l n x).2 := by
  unfold leaveC
  rw [goneS_mem, goneS_mem]
  by_cases e1 : x.1 = n
  · rw [if_pos e1]
    obtain ⟨a, b, c⟩ := othS_ok (a := n) (b := x.2) h hl
    exact ⟨⟨a, b⟩, ⟨h2, fun e => h3 (e1.trans e.symm)⟩, c⟩
  · rw [if_neg e1]
    by_cases e2 : x.2 = n
    · rw [if_pos e2]
      obtain ⟨a, b, c⟩ := othS_ok (a := n) (b := x.1) h hl
      exact ⟨⟨h1, e1⟩, ⟨a, b⟩, fun e => c e.symm⟩
    · rw [if_neg e2]
      exact ⟨⟨h1, e1⟩, ⟨h2, e2⟩, h3⟩

/-! ### what an order makes of a config -/
def placeC (l : List Pt) (o : Od) (k : Int) : Int × Int := if o.f ≤ k ∧ k < o.t then (o.n, o.m) else cop l k
/-- What becomes of a config by an order's change: its error, or the config. -/
def change (c : Cf) (o : Od) : Int × Cf :=
  if o.k = 1 then (if 0 ≤ o.n ∧ o.n < 8 then (if o.n ∈ c.srv then (4, c) else (0, { c with srv := comeS c.srv o.n })) else (1, c))
  else if o.k = 2 then (if o.n ∈ c.srv then (if c.srv.length ≤ 2 then (110, c) else (0, { c with srv := goneS c.srv o.n, pts := pts (fun k => leaveC c.srv o.n (cop c.pts k)) })) else (3, c))
  else if o.k = 3 then (if o.f < 0 ∨ o.t > 256 ∨ o.f ≥ o.t then (71, c) else if o.n = o.m then (1, c) else if o.n ∈ c.srv ∧ o.m ∈ c.srv then (0, { c with pts := pts (placeC c.pts o) }) else (3, c))
  else if o.k = 4 then (if 1 ≤ o.n ∧ o.n ≤ 8 then (0, { c with t := o.n }) else (1, c))
  else (1, c)
def cfz : Cf := ⟨0, [], [], 0⟩
/-- What Apply tells. -/
noncomputable def apl (c : Cf) (o : Od) : Cf × Int :=
  if c.ok then (if c.e = 1099511627776 then (cfz, 6) else if (change c o).1 = 0 then ({ (change c o).2 with e := c.e + 1 }, 0) else (cfz, (change c o).1)) else (cfz, chk c)
theorem ptsOk_more_srv {s s' : List Int} (hs : ∀ x ∈ s, x ∈ s') {at_ till : Int} {l : List Pt} (h : ptsOk s at_ till l = true) : ptsOk s' at_ till l = true := by
  induction l generalizing at_ with
  | nil => exact h
  | cons p l ih =>
    simp only [ptsOk, Bool.and_eq_true, decide_eq_true_eq] at h ⊢
    exact ⟨⟨h.1.1, h.1.2.1, hs _ h.1.2.2.1, hs _ h.1.2.2.2.1, h.1.2.2.2.2⟩, ih h.2⟩
theorem change_ok {c : Cf} (h : c.ok) (o : Od) (h0 : (change c o).1 = 0) : (change c o).2.e = c.e ∧ 2 ≤ (change c o).2.srv.length ∧ srvOk (-1) (change c o).2.srv = true ∧ ptsOk (change c o).2.srv 0 256 (change c o).2.pts = true ∧ 1 ≤ (change c o).2.t ∧ (change c o).2.t ≤ 8 := by
  obtain ⟨⟨e1, e2, e3, e4⟩, h2, h3, h4⟩ := h
  unfold change at h0 ⊢
  by_cases k1 : o.k = 1
  · rw [if_pos k1] at h0 ⊢
    by_cases q1 : 0 ≤ o.n ∧ o.n < 8
    · rw [if_pos q1] at h0 ⊢
      by_cases q2 : o.n ∈ c.srv
      · rw [if_pos q2] at h0; cases h0
      · rw [if_neg q2]
        refine ⟨rfl, by show 2 ≤ (comeS c.srv o.n).length; rw [comeS_len]; omega, comeS_ok h3 q1 q2, ?_, e3, e4⟩
        exact ptsOk_more_srv (fun x hx => (comeS_mem _ _ _).2 (.inr hx)) h4
    · rw [if_neg q1] at h0; cases h0
  · rw [if_neg k1] at h0 ⊢
    by_cases k2 : o.k = 2
    · rw [if_pos k2] at h0 ⊢
      by_cases q1 : o.n ∈ c.srv
      · rw [if_pos q1] at h0 ⊢
        by_cases q2 : c.srv.length ≤ 2
        · rw [if_pos q2] at h0; cases h0
        · rw [if_neg q2]
          have hl := goneS_len h3 q1
          have hpt : ptsOk (goneS c.srv o.n) 0 256 (pts (fun k => leaveC c.srv o.n (cop c.pts k))) = true := by
            refine pts_ok (g := fun k => leaveC c.srv o.n (cop c.pts k)) fun k g1 g2 => ?_
            obtain ⟨a, b, d⟩ := cop_ok h4 g1 g2
            exact leaveC_ok (by omega) ((srvOk_iff' _).1 h3).2 a b d
          generalize pts (fun k => leaveC c.srv o.n (cop c.pts k)) = pp at hpt ⊢
          exact ⟨rfl, by show 2 ≤ (goneS c.srv o.n).length; omega, goneS_ok _ h3, hpt, e3, e4⟩
      · rw [if_neg q1] at h0; cases h0
    · rw [if_neg k2] at h0 ⊢
      by_cases k3 : o.k = 3
      · rw [if_pos k3] at h0 ⊢
        by_cases q1 : o.f < 0 ∨ o.t > 256 ∨ o.f ≥ o.t
        · rw [if_pos q1] at h0; cases h0
        · rw [if_neg q1] at h0 ⊢
          by_cases q2 : o.n = o.m
          · rw [if_pos q2] at h0; cases h0
          · rw [if_neg q2] at h0 ⊢
            by_cases q3 : o.n ∈ c.srv ∧ o.m ∈ c.srv
            · rw [if_pos q3]
              have hpt : ptsOk c.srv 0 256 (pts (placeC c.pts o)) = true := by
                refine pts_ok (g := placeC c.pts o) fun k g1 g2 => ?_
                unfold placeC
                split
                · exact ⟨q3.1, q3.2, q2⟩
                · exact cop_ok h4 g1 g2
              generalize pts (placeC c.pts o) = pp at hpt ⊢
              exact ⟨rfl, h2, h3, hpt, e3, e4⟩
            · rw [if_neg q3] at h0; cases h0
      · rw [if_neg k3] at h0 ⊢
        by_cases k4 : o.k = 4
        · rw [if_pos k4] at h0 ⊢
          by_cases q1 : 1 ≤ o.n ∧ o.n ≤ 8
          · rw [if_pos q1]
            exact ⟨rfl, h2, h3, h4, q1.1, q1.2⟩
          · rw [if_neg q1] at h0; cases h0
        · rw [if_neg k4] at h0; cases h0
/-- What is a config stays one. -/
theorem apl_ok {c : Cf} (h : c.ok) (o : Od) (h0 : (apl c o).2 = 0) : (apl c o).1.ok ∧ (apl c o).1.e = c.e + 1 ∧ (change c o).1 = 0 ∧ (apl c o).1 = { (change c o).2 with e := c.e + 1 } := by
  unfold apl at h0 ⊢
  rw [if_pos h] at h0 ⊢
  by_cases q1 : c.e = 1099511627776
  · rw [if_pos q1] at h0; cases h0
  · rw [if_neg q1] at h0 ⊢
    by_cases q2 : (change c o).1 = 0
    · rw [if_pos q2]
      obtain ⟨a, b, d, e, f, g⟩ := change_ok h o q2
      have := h.1.1
      have := h.1.2.1
      exact ⟨⟨⟨by show 1 ≤ c.e + 1; omega, by show c.e + 1 ≤ 1099511627776; omega, f, g⟩, b, d, e⟩, rfl, q2, rfl⟩
    · rw [if_neg q2] at h0; exact absurd h0 q2
end Go.Proofs.YthjinpbclfankaaGreatDoor
