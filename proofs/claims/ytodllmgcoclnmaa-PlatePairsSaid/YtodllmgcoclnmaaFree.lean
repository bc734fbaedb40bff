/-
  A plate of nine sectors whose power nobody ordered to go: what its writes and syncs do.
-/
import Derived.Test.YtodllmgcoclnmaaSteps
namespace Go.Proofs.Ytodllmgcoclnmaa
open Go.RowKit

/-- What a sector keeps that no later write is for. -/
theorem done_other {f : Nat → Nat} {ws : List Wr} {is : List (List UInt8)} {i : Nat} (h : ∀ x ∈ ws, x.i ≠ i) (hw : ∀ x ∈ ws, x.i < is.length) (j : Nat) : (done f ws is j).getD i [] = is.getD i [] := by
  induction j with
  | zero => rfl
  | succ j ih =>
    unfold done
    split
    · exact ih
    · next x hx =>
      have hm := List.mem_of_getElem? hx
      rw [getD_set (by rw [done_length]; exact hw x hm), if_neg (fun e => h x hm e.symm)]
      exact ih
/-- A script of writes, by the kinds. -/
structure Fr (s : St) (k : Nat) : Prop where
  good : Good s
  len : s.is.length = 9
  gone : s.gone = false
  left : s.left = 0
  wt : s.wait.length ≤ k
  n : s.n ≤ k
theorem count_free {s : St} (h : s.left = 0) : count s = { s with n := s.n + 1 } := by unfold count; rw [if_pos h]
theorem Fr.fresh : Fr (fresh 9) 0 := ⟨Good.fresh 9, by show (List.replicate (size0 9) (zeros 32)).length = 9; rw [List.length_replicate]; rfl, rfl, rfl, Nat.le_refl _, Nat.le_refl _⟩
theorem Fr.mono {s : St} {k j : Nat} (h : Fr s k) (hk : k ≤ j) : Fr s j := ⟨h.good, h.len, h.gone, h.left, Nat.le_trans h.wt hk, Nat.le_trans h.n hk⟩
theorem Fr.write {s : St} {k : Nat} (h : Fr s k) (i : Int) (b : ByteArray) : Fr (writeS s i b) (k + 1) := by
  refine ⟨h.good.write i b, ?_, ?_, ?_, Nat.le_trans (write_wait _ _ _) (by have := h.wt; omega), Nat.le_trans (write_n _ _ _) (by have := h.n; omega)⟩
  all_goals
    unfold writeS
    split
    · first | exact h.len | exact h.gone | exact h.left
    · rw [count_free (show (add s i b).left = 0 from h.left)]
      first | exact h.len | exact h.gone | exact h.left
theorem Fr.wrong {s : St} {k : Nat} (h : Fr s k) (i : Int) : wrong s i = if i < 0 ∨ 9 ≤ i then 71 else 0 := by
  unfold Go.Proofs.Ytodllmgcoclnmaa.wrong
  rw [if_neg (by simp [h.gone]), h.len]; rfl
theorem Fr.writeE {s : St} {k : Nat} (h : Fr s k) (i : Int) (b : ByteArray) : writeE s i b = if i < 0 ∨ 9 ≤ i then 71 else if 32 < b.size then 11 else 0 := by
  unfold Go.Proofs.Ytodllmgcoclnmaa.writeE
  rw [h.wrong]
  by_cases hi : i < 0 ∨ 9 ≤ i
  · rw [if_pos hi, if_pos (by omega), if_pos hi]
  · rw [if_neg hi, if_neg (by omega), if_neg hi]
    by_cases hb : 32 < b.size
    · rw [if_pos hb, if_pos hb]
    · rw [if_neg hb, if_neg hb]
      unfold countE
      rw [if_neg (by rw [h.left]; omega)]
theorem Fr.same {s : St} {k : Nat} (h : Fr s k) {i : Int} {b : ByteArray} (he : Go.Proofs.Ytodllmgcoclnmaa.writeE s i b ≠ 0) : writeS s i b = s := by
  rw [h.writeE] at he
  unfold writeS
  rw [h.wrong, if_pos]
  by_cases hi : i < 0 ∨ 9 ≤ i
  · left; rw [if_pos hi]; omega
  · right
    rw [if_neg hi] at he
    by_cases hb : 32 < b.size
    · exact hb
    · rw [if_neg hb] at he; exact absurd rfl he
theorem Fr.add {s : St} {k : Nat} (h : Fr s k) {i : Int} {b : ByteArray} (he : Go.Proofs.Ytodllmgcoclnmaa.writeE s i b = 0) : (writeS s i b).is = s.is ∧ (writeS s i b).wait = s.wait ++ [⟨i.toNat, pad b⟩] ∧ 0 ≤ i ∧ i < 9 := by
  rw [h.writeE] at he
  have hi : ¬ (i < 0 ∨ 9 ≤ i) := fun hi => by rw [if_pos hi] at he; omega
  rw [if_neg hi] at he
  have hb : ¬ 32 < b.size := fun hb => by rw [if_pos hb] at he; omega
  unfold writeS
  rw [h.wrong, if_neg (by rw [if_neg hi]; omega), count_free (show (Go.Proofs.Ytodllmgcoclnmaa.add s i b).left = 0 from h.left)]
  exact ⟨rfl, rfl, by omega, by omega⟩
theorem Fr.syncE {s : St} {k : Nat} (h : Fr s k) : syncE s = 0 := by
  unfold Go.Proofs.Ytodllmgcoclnmaa.syncE; rw [if_neg (by simp [h.gone, h.left])]
theorem Fr.sync {s : St} {k : Nat} (h : Fr s k) : Fr (syncS s) (k + 1) ∧ (syncS s).wait = [] := by
  have e : syncS s = whole (count s) := by unfold syncS; rw [if_neg (by simp [h.gone]), if_neg (by rw [h.left]; omega)]
  rw [e, count_free h.left]
  have hg : Good { s with n := s.n + 1 } := by have := h.good.count; rwa [count_free h.left] at this
  refine ⟨⟨hg.whole, ?_, h.gone, h.left, Nat.zero_le _, ?_⟩, rfl⟩
  · show (done _ _ _ _).length = 9; rw [done_length]; exact h.len
  · show s.n + 1 ≤ k + 1; have := h.n; omega
theorem crashed {s : St} (hg : s.gone = false) (hgood : Good s) (keep : Nat) : (crash s keep).gone = true ∧ (crash s keep).wait = [] ∧ (crash s keep).is.length = s.is.length ∧ ∀ i, (∀ x ∈ s.wait, x.i ≠ i) → (crash s keep).is.getD i [] = s.is.getD i [] := by
  unfold crash
  rw [if_neg (by simp [hg])]
  exact ⟨rfl, rfl, done_length _ _ _ _, fun i hi => done_other hi (fun x hx => (hgood.wt x hx).1) _⟩
theorem sync_gone {s : St} (hg : s.gone = true) : syncE s = 70 ∧ syncS s = s := by
  unfold syncE syncS
  exact ⟨if_pos (.inl hg), if_pos hg⟩
theorem power_read {s : St} (hw : s.wait = []) (i : Nat) (hi : i < s.is.length) : wrong (power s) i = 0 ∧ readV (power s) i = s.is.getD i [] := by
  have h0 : wrong (power s) i = 0 := by
    unfold wrong
    rw [if_neg (by simp [power]), if_neg]
    show ¬ ((i : Int) < 0 ∨ (s.is.length : Int) ≤ i)
    omega
  refine ⟨h0, ?_⟩
  unfold readV readB
  rw [if_neg (by rw [h0]; omega)]
  show seen s.wait _ _ s.wait.length = _
  rw [hw]
  rfl
theorem get_getD {l : List (List UInt8)} {i : Nat} (hi : i < l.length) : l[i]? = some (l.getD i []) := by
  rw [List.getD_eq_getElem?_getD, List.getElem?_eq_getElem hi]; rfl
end Go.Proofs.Ytodllmgcoclnmaa
