/-
  What a crash leaves of a sector, two bytes by two bytes.
-/
import Derived.Test.YtodllmgcoclnmaaTexts
namespace Go.Proofs.Ytodllmgcoclnmaa
open Go.RowKit

/-- The two bytes from 2·j on are those of one of these texts. -/
def Of (l : List (List UInt8)) (x : List UInt8) : Prop := ∀ j, j < 16 → ∃ (i : Nat) (y : List UInt8), l[i]? = some y ∧ (x.take (2 * j + 2)).drop (2 * j) = (y.take (2 * j + 2)).drop (2 * j)
theorem two (x : List UInt8) (k : Nat) : (x.take (k + 2)).drop k = (x.drop k).take 2 := by rw [List.drop_take]; congr 1; omega
theorem mix_two {new old : List UInt8} {k j : Nat} (hn : new.length = 32) (hk : k % 2 = 0) (hk2 : k ≤ 32) : (((mix k new old).take (2 * j + 2)).drop (2 * j) = (if 2 * j < k then (new.take (2 * j + 2)).drop (2 * j) else (old.take (2 * j + 2)).drop (2 * j))) := by
  have hl : (new.take k).length = k := by simp [hn]; omega
  unfold mix
  rw [two]
  by_cases h : 2 * j < k
  · rw [if_pos h, two, List.drop_append_of_le_length (by omega), List.drop_take, List.take_append_of_le_length (by rw [List.length_take, List.length_drop, hn]; omega), List.take_take]
    congr 1; omega
  · rw [if_neg h, two, List.drop_append, hl, List.drop_of_length_le (by omega), List.nil_append, List.drop_drop]
    congr 2; omega
theorem Of.more {l : List (List UInt8)} {x z : List UInt8} (h : Of l x) : Of (l ++ [z]) x := fun j hj => by
  obtain ⟨i, y, hi, he⟩ := h j hj
  exact ⟨i, y, by rw [List.getElem?_append_left (List.getElem?_eq_some_iff.1 hi).1]; exact hi, he⟩
theorem Of.of {l : List (List UInt8)} {x : List UInt8} {i : Nat} (h : l[i]? = some x) : Of l x := fun _ _ => ⟨i, x, h, rfl⟩
theorem Of.mix {l : List (List UInt8)} {new old : List UInt8} {k : Nat} (hn : new.length = 32) (hk : k % 2 = 0) (hk2 : k ≤ 32) (h1 : Of l new) (h2 : Of l old) : Of l (mix k new old) := fun j hj => by
  obtain ⟨i1, y1, a1, b1⟩ := h1 j hj
  obtain ⟨i2, y2, a2, b2⟩ := h2 j hj
  by_cases h : 2 * j < k
  · exact ⟨i1, y1, a1, by rw [mix_two hn hk hk2, if_pos h]; exact b1⟩
  · exact ⟨i2, y2, a2, by rw [mix_two hn hk hk2, if_neg h]; exact b2⟩
/-- Behind a crash a sector is made of what lasted and of what waited for it. -/
theorem done_of {keep : Nat} {ws : List Wr} {is : List (List UInt8)} {l : List (List UInt8)} {q : Nat} (hw : ∀ x ∈ ws, x.i < is.length ∧ x.b.length = 32) (h0 : Of l (is.getD q [])) (h1 : ∀ x ∈ ws, x.i = q → Of l x.b) (j : Nat) : Of l ((done (part keep) ws is j).getD q []) := by
  induction j with
  | zero => exact h0
  | succ j ih =>
    unfold done
    split
    · exact ih
    · next x hx =>
      have hm := List.mem_of_getElem? hx
      obtain ⟨a, b⟩ := hw x hm
      rw [getD_set (by rw [done_length]; exact a)]
      by_cases e : q = x.i
      · rw [if_pos e, ← e]
        exact Of.mix b (part_even _ _) (part_le _ _) (h1 x hm e.symm) ih
      · rw [if_neg e]; exact ih
/-- The plate of PlatePairs: what it may show in its third sector. -/
structure Pr (s : St) (l : List (List UInt8)) (k : Nat) : Prop where
  good : Good s
  len : s.is.length = 4
  gone : s.gone = false
  left : s.left = 0
  wt : s.wait.length ≤ k
  n : s.n ≤ k + 2
  was : Of l (s.is.getD 2 [])
  wts : ∀ x ∈ s.wait, x.i = 2 → Of l x.b
  lens : ∀ z ∈ l, z.length = 32
theorem free_wrong {s : St} (hl : s.is.length = 4) (hg : s.gone = false) : wrong s 2 = 0 := by
  unfold wrong
  rw [if_neg (by simp [hg]), hl, if_neg (by omega)]
theorem free_write {s : St} (hl : s.is.length = 4) (hg : s.gone = false) (hf : s.left = 0) {t : ByteArray} (ht : t.size ≤ 32) : writeE s 2 t = 0 ∧ writeS s 2 t = { s with wait := s.wait ++ [⟨2, pad t⟩], n := s.n + 1 } := by
  have hw := free_wrong hl hg
  refine ⟨?_, ?_⟩
  · unfold writeE
    rw [hw, if_neg (by omega), if_neg (by omega)]
    unfold countE
    rw [if_neg (by rw [hf]; omega)]
  · unfold writeS
    rw [hw, if_neg (by omega), count_free (show (add s 2 t).left = 0 from hf)]
    rfl
theorem Pr.write {s : St} {l : List (List UInt8)} {k : Nat} (h : Pr s l k) {t : ByteArray} (ht : t.size ≤ 32) : writeE s 2 t = 0 ∧ Pr (writeS s 2 t) (l ++ [pad t]) (k + 1) := by
  obtain ⟨h1, h2⟩ := free_write h.len h.gone h.left ht
  refine ⟨h1, ?_⟩
  have hg := h.good.write 2 t
  rw [h2] at hg ⊢
  refine ⟨hg, h.len, h.gone, h.left, ?_, ?_, h.was.more, fun x hx hi => ?_, fun z hz => ?_⟩
  · show (s.wait ++ [_]).length ≤ k + 1
    have := h.wt; simp; omega
  · show s.n + 1 ≤ k + 1 + 2
    have := h.n; omega
  · rcases List.mem_append.1 hx with hx | hx
    · exact (h.wts x hx hi).more
    · rw [List.mem_singleton] at hx
      subst hx
      exact Of.of (i := l.length) (by simp)
  · rcases List.mem_append.1 hz with hz | hz
    · exact h.lens z hz
    · rw [List.mem_singleton] at hz
      subst hz
      exact pad_length ht
theorem Pr.big {s : St} {l : List (List UInt8)} {k : Nat} (h : Pr s l k) {t : ByteArray} (ht : 32 < t.size) : writeE s 2 t = 11 ∧ writeS s 2 t = s := by
  have hw := free_wrong h.len h.gone
  unfold writeE writeS
  rw [hw, if_neg (by omega), if_pos ht, if_pos (.inr ht)]
  exact ⟨rfl, rfl⟩
theorem Pr.mono {s : St} {l : List (List UInt8)} {k j : Nat} (h : Pr s l k) (hk : k ≤ j) : Pr s l j := ⟨h.good, h.len, h.gone, h.left, Nat.le_trans h.wt hk, by have := h.n; omega, h.was, h.wts, h.lens⟩
theorem fresh4 : (fresh 4).is.length = 4 := by show (List.replicate (size0 4) (zeros 32)).length = 4; rw [List.length_replicate]; rfl
theorem pairs_start {t : ByteArray} (ht : t.size ≤ 32) : ∃ s1 s2, writeE (fresh 4) 2 t = 0 ∧ writeS (fresh 4) 2 t = s1 ∧ Good s1 ∧ s1.wait.length ≤ 1 ∧ s1.n ≤ 1 ∧ syncE s1 = 0 ∧ syncS s1 = s2 ∧ Pr s2 [pad t] 0 := by
  obtain ⟨h1, h2⟩ := free_write fresh4 rfl rfl ht
  have hg1 := (Good.fresh 4).write 2 t
  have hlen : (writeS (fresh 4) 2 t).is.length = 4 := by rw [h2]; exact fresh4
  have hs : syncS (writeS (fresh 4) 2 t) = whole { writeS (fresh 4) 2 t with n := (writeS (fresh 4) 2 t).n + 1 } := by
    rw [h2]
    unfold syncS
    rw [if_neg (by show ¬ (false = true); decide), if_neg (by show ¬ (0 = 1); decide), count_free rfl]
  refine ⟨_, _, h1, rfl, hg1, by rw [h2]; exact Nat.le_refl _, by rw [h2]; exact Nat.le_refl _, ?_, rfl, hg1.sync, ?_, ?_, ?_, ?_, ?_, ?_, ?_, fun z hz => by rw [List.mem_singleton] at hz; subst hz; exact pad_length ht⟩
  · rw [h2]; unfold syncE; rw [if_neg (by show ¬ (false = true ∨ 0 = 1); decide)]
  · rw [hs]; show (done _ _ _ _).length = 4; rw [done_length]; exact hlen
  · rw [hs, h2]; rfl
  · rw [hs, h2]; rfl
  · rw [hs]; exact Nat.le_refl _
  · rw [hs, h2]; exact Nat.le_refl _
  · rw [hs]
    show Of _ ((done (fun _ => 32) (writeS (fresh 4) 2 t).wait (writeS (fresh 4) 2 t).is (writeS (fresh 4) 2 t).wait.length).getD 2 [])
    rw [done_seen hg1.sec hg1.wt, h2]
    exact Of.of (i := 0) rfl
  · rw [hs]
    intro x hx
    simp [whole] at hx
theorem Pr.crash {s : St} {l : List (List UInt8)} {k : Nat} (h : Pr s l k) (keep : Nat) : (crash s keep).gone = true ∧ (crash s keep).wait = [] ∧ (crash s keep).is.length = 4 ∧ Of l ((crash s keep).is.getD 2 []) := by
  obtain ⟨g1, g2, g3, -⟩ := crashed h.gone h.good keep
  refine ⟨g1, g2, g3.trans h.len, ?_⟩
  unfold Go.Proofs.Ytodllmgcoclnmaa.crash
  rw [if_neg (by simp [h.gone])]
  exact done_of h.good.wt h.was h.wts _
end Go.Proofs.Ytodllmgcoclnmaa
