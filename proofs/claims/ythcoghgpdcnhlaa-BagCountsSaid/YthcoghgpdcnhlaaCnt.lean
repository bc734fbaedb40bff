/-
  How often a message is there, behind each call: what BagCounts asks.
-/
import Derived.Test.YthcoghgpdcnhlaaStart
namespace Go.Proofs.Ythcoghgpdcnhlaa
open Go.RowKit

theorem cnt_more (m : M) (l k : List M) : cnt m (l ++ k) = cnt m l + cnt m k := List.countP_append
theorem cnt_single (m x : M) : cnt m [x] = if x.eqb m = true then 1 else 0 := by simp [cnt, List.countP_cons]
theorem cnt_yes {m x : M} (h : x.eqb m = true) : cnt m [x] = 1 := by rw [cnt_single, if_pos h]
theorem cnt_no {m x : M} (h : x.eqb m = false) : cnt m [x] = 0 := by rw [cnt_single, if_neg (by rw [h]; simp)]
theorem cnt_rest {m x : M} {l : List M} {i : Nat} (h : l[i]? = some x) : cnt m l = cnt m (rest l i) + cnt m [x] := by
  obtain ⟨hi, hx⟩ := List.getElem?_eq_some_iff.1 h
  have : l = l.take i ++ ([x] ++ l.drop (i + 1)) := by
    rw [List.singleton_append, ← hx, ← List.drop_eq_getElem_cons hi, List.take_append_drop]
  rw [rest, cnt_more]
  rw (occs := .pos [1]) [this]
  rw [cnt_more, cnt_more]; omega
theorem send_cases (l : List M) (x : M) : (sendE l x = 0 ∧ sendL l x = l ++ [x]) ∨ ((sendE l x == 0) = false ∧ sendL l x = l) := by
  by_cases hc : x.chk = 0
  · rw [sendE, sendL, if_pos hc, if_pos hc, roomE, roomL]
    by_cases hf : 64 ≤ l.length
    · rw [if_pos hf, if_pos hf]; exact .inr ⟨rfl, rfl⟩
    · rw [if_neg hf, if_neg hf]; exact .inl ⟨rfl, rfl⟩
  · rw [sendE, sendL, if_neg hc, if_neg hc]
    exact .inr ⟨by simpa using hc, rfl⟩
/-- Is it m that stands at the place i? -/
def thr (l : List M) (i : Int) (m : M) : Bool := decide (has l i) && (atP l i).eqb m
theorem thr_yes {l : List M} {i : Int} {m : M} (h : thr l i m = true) : has l i ∧ (atP l i).eqb m = true := by
  unfold thr at h; simpa using h
theorem thr_no {l : List M} {i : Int} {m : M} (h : thr l i m = false) (hh : has l i) : (atP l i).eqb m = false := by
  unfold thr at h; simpa [hh] using h
theorem take_yes_cnt {l : List M} {i : Int} {m : M} (h : thr l i m = true) : tkE l i = 0 ∧ (tkM l i).eqb m = true ∧ cnt m l = cnt m (tkL l i) + 1 := by
  obtain ⟨hh, he⟩ := thr_yes h
  exact ⟨if_pos hh, by rw [show tkM l i = atP l i from if_pos hh]; exact he, by rw [show tkL l i = rest l i.toNat from if_pos hh, cnt_rest (atP_get hh), cnt_yes he]⟩
theorem take_no_cnt {l : List M} {i : Int} {m : M} (h : thr l i m = false) : cnt m l = cnt m (tkL l i) ∧ ((tkE l i == 0) = false ∨ (tkE l i = 0 ∧ (tkM l i).eqb m = false)) := by
  by_cases hh : has l i
  · have he := thr_no h hh
    exact ⟨by rw [show tkL l i = rest l i.toNat from if_pos hh, cnt_rest (atP_get hh), cnt_no he]; rfl, .inr ⟨if_pos hh, by rw [show tkM l i = atP l i from if_pos hh]; exact he⟩⟩
  · exact ⟨by rw [show tkL l i = l from if_neg hh], .inl (by rw [show tkE l i = 3 from if_neg hh]; rfl)⟩
theorem twice_cnt (l : List M) (i : Int) (m : M) : ((twE l i == 0) = false ∧ cnt m (twL l i) = cnt m l) ∨ (twE l i = 0 ∧ cnt m (twL l i) = cnt m l + (if thr l i m = true then 1 else 0)) := by
  by_cases hh : has l i
  · rw [show twE l i = roomE l from if_pos hh, show twL l i = roomL l (atP l i) from if_pos hh, roomE, roomL]
    by_cases hf : 64 ≤ l.length
    · rw [if_pos hf, if_pos hf]; exact .inl ⟨rfl, rfl⟩
    · rw [if_neg hf, if_neg hf]
      refine .inr ⟨rfl, ?_⟩
      rw [cnt_more, cnt_single]
      unfold thr
      simp [hh]
  · rw [show twE l i = 3 from if_neg hh, show twL l i = l from if_neg hh]
    exact .inl ⟨rfl, rfl⟩
theorem late_cnt (l : List M) (i : Int) (m : M) : cnt m (ltL l i) = cnt m l := by
  by_cases hh : has l i
  · rw [show ltL l i = rest l i.toNat ++ [atP l i] from if_pos hh, cnt_more, ← cnt_rest (atP_get hh)]
  · rw [show ltL l i = l from if_neg hh]
theorem cut_cnt (l : List M) (i : Int) (m : M) : cnt m (cutL l i) = if (m.dst != i && m.src != i) = true then cnt m l else 0 := by
  unfold cnt cutL
  rw [List.countP_filter]
  by_cases h : (m.dst != i && m.src != i) = true
  · rw [if_pos h]
    apply List.countP_congr
    intro x _
    constructor
    · intro hx
      exact (Bool.and_eq_true _ _ ▸ hx).1
    · intro hx
      have := M.eqb_iff.1 hx
      subst this
      rw [Bool.and_eq_true]; exact ⟨hx, h⟩
  · rw [if_neg h]
    apply List.countP_eq_zero.2
    intro x _ hx
    rw [Bool.and_eq_true] at hx
    have := M.eqb_iff.1 hx.1
    subst this
    exact h hx.2
end Go.Proofs.Ythcoghgpdcnhlaa
