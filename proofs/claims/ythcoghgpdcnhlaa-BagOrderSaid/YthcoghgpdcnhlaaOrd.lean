/-
  What BagOrder looks for: one list in another one.
-/
import Derived.Test.YthcoghgpdcnhlaaStart
namespace Go.Proofs.Ythcoghgpdcnhlaa
open Go.RowKit

theorem rest_sub (l : List M) (i : Nat) : (rest l i).Sublist l := by
  unfold rest
  have h : l.take i ++ l.drop i = l := List.take_append_drop i l
  have h2 : (l.take i ++ l.drop (i + 1)).Sublist (l.take i ++ l.drop i) := by
    apply List.Sublist.append_left
    rw [← List.drop_drop]
    exact List.drop_sublist 1 _
  rw [h] at h2
  exact h2
theorem room_sub (l : List M) (m : M) : (roomL l m).dropLast.Sublist l := by
  unfold roomL
  split
  · exact List.dropLast_sublist l
  · simp
theorem next_sub (l : List M) (o : Stp) : (nextL l o).dropLast.Sublist l := by
  unfold nextL
  repeat' split
  · unfold sendL
    split
    · exact room_sub l _
    · exact List.dropLast_sublist l
  · unfold tkL
    split
    · exact (List.dropLast_sublist _).trans (rest_sub l _)
    · exact List.dropLast_sublist l
  · unfold twL
    split
    · exact room_sub l _
    · exact List.dropLast_sublist l
  · unfold tkL
    split
    · exact (List.dropLast_sublist _).trans (rest_sub l _)
    · exact List.dropLast_sublist l
  · unfold ltL
    split
    · rw [List.dropLast_concat]; exact rest_sub l _
    · exact List.dropLast_sublist l
  · exact (List.dropLast_sublist _).trans List.filter_sublist
  · exact List.dropLast_sublist l

/-- What is left to be found, in what is left to be looked at. -/
def Sub (N W : List M) (i k : Nat) : Prop := (N.dropLast.drop i).Sublist (W.drop k)
theorem Sub.skip {N W : List M} {i k : Nat} {x y : M} (h : Sub N W i k) (hx : W[k]? = some x) (hy : N[i]? = some y) (hne : x ≠ y) : Sub N W i (k + 1) := by
  unfold Sub at h ⊢
  have hk : k < W.length := (List.getElem?_eq_some_iff.1 hx).1
  have hxe : W[k] = x := (List.getElem?_eq_some_iff.1 hx).2
  rw [List.drop_eq_getElem_cons hk, hxe] at h
  by_cases hi : i < N.dropLast.length
  · rw [List.drop_eq_getElem_cons hi] at h ⊢
    have he : N.dropLast[i] = y := by
      have := List.getElem?_eq_getElem (l := N.dropLast) hi
      rw [List.getElem_dropLast]
      exact (List.getElem?_eq_some_iff.1 hy).2
    rw [he] at h ⊢
    cases h with
    | cons _ h => exact h
    | cons_cons _ h => exact absurd rfl hne
  · rw [List.drop_of_length_le (by omega)]
    exact List.nil_sublist _
theorem Sub.hit {N W : List M} {i k : Nat} {x : M} (h : Sub N W i k) (hx : W[k]? = some x) (hy : N[i]? = some x) : Sub N W (i + 1) (k + 1) := by
  unfold Sub at h ⊢
  have hk : k < W.length := (List.getElem?_eq_some_iff.1 hx).1
  have hxe : W[k] = x := (List.getElem?_eq_some_iff.1 hx).2
  rw [List.drop_eq_getElem_cons hk, hxe] at h
  by_cases hi : i < N.dropLast.length
  · rw [List.drop_eq_getElem_cons hi] at h
    have he : N.dropLast[i] = x := by
      rw [List.getElem_dropLast]
      exact (List.getElem?_eq_some_iff.1 hy).2
    rw [he] at h
    exact List.cons_sublist_cons.1 h
  · rw [List.drop_of_length_le (by omega)]
    exact List.nil_sublist _
theorem Sub.more {N W : List M} {i k : Nat} (h : Sub N W i k) (hi : i + 1 < N.length) : k < W.length := by
  unfold Sub at h
  have h1 := h.length_le
  rw [List.length_drop, List.length_drop, List.length_dropLast] at h1
  omega
theorem Sub.last {N W : List M} {i k : Nat} (hi : N.length ≤ i + 1) : Sub N W i k := by
  unfold Sub
  rw [List.drop_of_length_le (by rw [List.length_dropLast]; omega)]
  exact List.nil_sublist _

/-- A slice beside two bags stays as it is while they turn. -/
theorem Owns.fr2 {w w' : World} {base b1 b2 : Nat} {r1 r2 : Option Nat} {v : Value} {l : List M} (h : Owns w base v l) (hf : Fr2 b1 r1 b2 r2 w w') (h3 : ∀ g, v.ownBlock = some g → g ≠ b1 ∧ some g ≠ r1 ∧ g ≠ b2 ∧ some g ≠ r2) : Owns w' base v l :=
  h.kept fun g hg => hf.block g (h.lt hg).2 (h3 g hg).1 (h3 g hg).2.1 (h3 g hg).2.2.1 (h3 g hg).2.2.2
theorem SB.fr2 {w w' : World} {b1 b2 c : Nat} {r1 r2 : Option Nat} {o : Stp} (h : SB w c o) (hf : Fr2 b1 r1 b2 r2 w w') (h1 : c ≠ b1) (h2 : some c ≠ r1) (h3 : c ≠ b2) (h4 : some c ≠ r2) : SB w' c o := by
  unfold SB; rw [hf.block c h.lt h1 h2 h3 h4]; exact h
end Go.Proofs.Ythcoghgpdcnhlaa
