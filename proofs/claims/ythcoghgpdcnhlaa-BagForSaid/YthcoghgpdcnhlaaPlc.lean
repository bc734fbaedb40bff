/-
  The places of a node's messages: what BagFor looks for.
-/
import Derived.Test.YthcoghgpdcnhlaaStart
namespace Go.Proofs.Ythcoghgpdcnhlaa
open Go.RowKit

theorem plc_split (q : Int) (l : List M) (i n : Nat) (h : i ≤ n) : ∃ t, plc q l n = plc q l i ++ t := by
  induction n with
  | zero => exact ⟨[], by rw [show i = 0 by omega]; simp⟩
  | succ n ih =>
    by_cases hi : i = n + 1
    · exact ⟨[], by rw [hi]; simp⟩
    · obtain ⟨t, ht⟩ := ih (by omega)
      exact ⟨_, by rw [plc, ht, List.append_assoc]⟩
theorem plc_at {q : Int} {l : List M} {i n : Nat} {m : M} (h : i < n) (hm : l[i]? = some m) (hd : (m.dst == q) = true) : (plc q l n)[(plc q l i).length]? = some (i : Int) := by
  obtain ⟨t, ht⟩ := plc_split q l (i + 1) n h
  rw [ht, plc_yes hm hd, List.append_assoc, List.getElem?_append_right (Nat.le_refl _)]
  simp
theorem plc_mem {q : Int} {l : List M} {n : Nat} {x : Int} (h : x ∈ plc q l n) : ∃ (a : Nat) (m : M), x = (a : Int) ∧ a < n ∧ l[a]? = some m ∧ m.dst = q := by
  induction n with
  | zero => simp [plc] at h
  | succ n ih =>
    rw [plc] at h
    rcases List.mem_append.1 h with h | h
    · obtain ⟨a, m, h1, h2, h3, h4⟩ := ih h
      exact ⟨a, m, h1, by omega, h3, h4⟩
    · cases hm : l[n]? with
      | none => simp [hm] at h
      | some m =>
        by_cases hd : (m.dst == q) = true
        · simp only [hm, hd, if_true, List.mem_singleton] at h
          exact ⟨n, m, h, by omega, hm, by simpa using hd⟩
        · simp [hm] at h
          exact absurd (by simpa using h.1) hd
theorem plc_up (q : Int) (l : List M) (n : Nat) : (plc q l n).Pairwise (· < ·) := by
  induction n with
  | zero => simp [plc]
  | succ n ih =>
    rw [plc]
    refine List.pairwise_append.2 ⟨ih, ?_, ?_⟩
    · cases hm : l[n]? with
      | none => simp
      | some m => by_cases hd : (m.dst == q) = true <;> simp [hd]
    · intro a ha b hb
      obtain ⟨x, m, rfl, hx, -, -⟩ := plc_mem ha
      cases hm : l[n]? with
      | none => simp [hm] at hb
      | some m' =>
        by_cases hd : (m'.dst == q) = true
        · simp only [hm, hd, if_true, List.mem_singleton] at hb
          rw [hb]; omega
        · simp [hm] at hb
          exact absurd (by simpa using hb.1) hd
/-- The place that stands at j: a message to the node; those ahead are less. -/
theorem plc_get {q : Int} {l : List M} {n j : Nat} (h : j < (plc q l n).length) : ∃ (a : Nat) (m : M), (plc q l n)[j]? = some (a : Int) ∧ a < n ∧ l[a]? = some m ∧ m.dst = q := by
  obtain ⟨a, m, h1, h2, h3, h4⟩ := plc_mem (List.getElem_mem h)
  exact ⟨a, m, by rw [List.getElem?_eq_getElem h, h1], h2, h3, h4⟩
theorem plc_less {q : Int} {l : List M} {n i j : Nat} {x y : Int} (hij : i < j) (hx : (plc q l n)[i]? = some x) (hy : (plc q l n)[j]? = some y) : x < y := by
  obtain ⟨hi, rfl⟩ := List.getElem?_eq_some_iff.1 hx
  obtain ⟨hj, rfl⟩ := List.getElem?_eq_some_iff.1 hy
  exact List.pairwise_iff_getElem.1 (plc_up q l n) i j hi hj hij

/-- What is left while places are taken from the last one on: the first c of l are as they were, and all that are still to be taken are among them. -/
def Left (q : Int) (l L : List M) (j : Nat) : Prop := ∃ (c : Nat) (T : List M), L = l.take c ++ T ∧ c ≤ l.length ∧ (∀ i x, i < j → (plc q l l.length)[i]? = some x → x < (c : Int)) ∧ L.length + ((plc q l l.length).length - j) = l.length ∧ j ≤ (plc q l l.length).length
theorem Left.start (q : Int) (l : List M) : Left q l l (plc q l l.length).length := by
  refine ⟨l.length, [], by simp, Nat.le_refl _, fun i x _ hx => ?_, by omega, Nat.le_refl _⟩
  obtain ⟨a, m, h1, h2, -⟩ := plc_mem (List.mem_of_getElem? hx)
  rw [h1]; omega
theorem Left.step {q : Int} {l L : List M} {j : Nat} (h : Left q l L (j + 1)) : ∃ (a : Nat) (m : M), (plc q l l.length)[j]? = some (a : Int) ∧ L[a]? = some m ∧ m.dst = q ∧ Left q l (rest L a) j := by
  obtain ⟨c, T, hL, hc, hlt, hlen, hj⟩ := h
  obtain ⟨a, m, h1, h2, h3, h4⟩ := plc_get (q := q) (l := l) (n := l.length) (j := j) (by omega)
  have hac : a < c := by have := hlt j _ (by omega) h1; omega
  have hLa : L[a]? = some m := by
    rw [hL, List.getElem?_append_left (by rw [List.length_take]; omega), List.getElem?_take, if_pos hac]; exact h3
  have haL : a < L.length := (List.getElem?_eq_some_iff.1 hLa).1
  refine ⟨a, m, h1, hLa, h4, a, L.drop (a + 1), ?_, by omega, fun i x hi hx => plc_less hi hx h1, ?_, by omega⟩
  · unfold rest
    congr 1
    rw [hL, List.take_append_of_le_length (by rw [List.length_take]; omega), List.take_take, show min a c = a by omega]
  · rw [rest_length haL]; omega
theorem Left.le {q : Int} {l L : List M} {j : Nat} (h : Left q l L j) : L.length ≤ l.length := by
  obtain ⟨c, T, hL, hc, hlt, hlen, hj⟩ := h; omega
theorem Left.all {q : Int} {l L : List M} (h : Left q l L 0) : L.length + (plc q l l.length).length = l.length := by
  obtain ⟨c, T, hL, hc, hlt, hlen, hj⟩ := h; omega
end Go.Proofs.Ythcoghgpdcnhlaa
