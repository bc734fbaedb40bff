/-
  Next (package timer), by a contract.
-/
import Derived.Test.YtcanagecdniiiaaList
import Derived.Test.YtcanagecdniiiaaWhole
namespace Go.Proofs.Ytcanagecdniiiaa
open Go.RowKit

theorem next_at {l : List Al} {n : Int} {i : Nat} {m : Al} (h0 : ∀ j x, j < i → l[j]? = some x → x.n ≠ n) (hi : l[i]? = some m) (hm : m.n = n) : nextA l n = m ∧ nextB l n = true := by
  have hil : i < l.length := (List.getElem?_eq_some_iff.1 hi).1
  have hmi : l[i] = m := by rw [List.getElem?_eq_getElem hil] at hi; exact Option.some.inj hi
  have hf : l.find? (fun x => decide (x.n = n)) = some m := by
    rw [List.find?_eq_some_iff_getElem]
    refine ⟨by simpa using hm, i, hil, hmi, fun j hj => ?_⟩
    have := h0 j l[j] hj (List.getElem?_eq_getElem (by omega))
    simpa using this
  refine ⟨by unfold nextA; rw [hf]; rfl, ?_⟩
  unfold nextB
  rw [List.any_eq_true]
  exact ⟨m, List.mem_of_getElem? hi, by simpa using hm⟩
theorem next_no {l : List Al} {n : Int} (h0 : ∀ j x, j < l.length → l[j]? = some x → x.n ≠ n) : nextA l n = Al.zero ∧ nextB l n = false := by
  have h1 : ∀ x ∈ l, x.n ≠ n := fun x hx => by
    obtain ⟨i, hi⟩ := List.getElem?_of_mem hx
    exact h0 i x (List.getElem?_eq_some_iff.1 hi).1 hi
  refine ⟨?_, ?_⟩
  · unfold nextA
    rw [List.find?_eq_none.2 (fun x hx => by simpa using h1 x hx)]; rfl
  · unfold nextB
    rw [List.any_eq_false]
    exact fun x hx => by simpa using h1 x hx

set_option maxRecDepth 100000 in
set_option maxHeartbeats 2000000 in
theorem next_any (B mb : Nat) (l : List Al) (n : Int) (w : World) (h : Tms w B mb l) :
    Calls Try.prog 13 #[.pointer (some ⟨B, 0, none⟩), .int .i64 n] w fun e w' => e = .returned (.tuple #[(nextA l n).val, .bool (nextB l n)]) ∧ Below w.heap.size w w' := by
  obtain ⟨na, hna⟩ : ∃ a, nextA l n = a := ⟨_, rfl⟩
  obtain ⟨nb, hnb⟩ : ∃ a, nextB l n = a := ⟨_, rfl⟩
  rw [hna, hnb]
  have hle := h.2.good.le
  have hb1 : Below w.heap.size w (w.alloc (.cells Al.zero.cells 31)) := (Below.refl _ _).alloc (Nat.le_refl _) _
  have HL := Lib.hid (list_any B mb l _ (h.below hb1))
  have B1 := Lib.hid hb1
  have X1 := Lib.hid (AB.fresh 31 w Al.zero)
  clear h hb1
  go_enter Try.func13, Try.ntmps13
  go_wp2_with fail
  go_at_call 12
  refine HL.out.mono ?_
  rintro e w1 ⟨v, rfl, k1, k2⟩
  have O1 := Lib.hid k1
  have B2 := Lib.hid (B1.out.trans (k2.mono B1.out.size))
  have X2 := Lib.hid (X1.out.below k2)
  have hsh : ∃ A cap, v = .slice A l.length cap := by
    rcases k1.form with ⟨rfl, rfl⟩ | ⟨g, cap, rfl, -⟩
    · exact ⟨none, 0, rfl⟩
    · exact ⟨_, cap, rfl⟩
  obtain ⟨A, cap, rfl⟩ := hsh
  clear k1 k2 HL B1 X1
  go_wp2
  go_loopw [11] (fun iv wr => ∃ k : Nat, k ≤ l.length ∧ iv = .int .i64 k ∧ (∀ j x, j < k → l[j]? = some x → x.n ≠ n) ∧ AB 31 wr w.heap.size Al.zero ∧ Owns 31 wr (w.alloc (.cells Al.zero.cells 31)).heap.size (.slice A l.length cap) l ∧ Below w.heap.size w wr) (fun iv _ => l.length - (intOf iv).toNat)
  case atStart => exact ⟨0, Nat.zero_le _, rfl, fun j x hj => by omega, X2.out, O1.out, B2.out⟩
  case round =>
    obtain ⟨k, hk, rfl, h0, hX, hO, hB⟩ := hrel
    have X3 := Lib.hid hX
    have O3 := Lib.hid hO
    have B3 := Lib.hid hB
    have H0 := Lib.hid h0
    clear hX hO hB h0
    by_cases hlt : k < l.length
    · obtain ⟨m, hm⟩ : ∃ m, l[k]? = some m := ⟨_, List.getElem?_eq_getElem hlt⟩
      have hlI : (k : Int) < (l.length : Int) := by omega
      have hkI : (0 : Int) ≤ (k : Int) := by omega
      rcases O3.out.form with ⟨-, rfl⟩ | ⟨g, cap', e1, hbg, hgl, -, -, hat⟩
      · simp at hlt
      cases e1
      obtain ⟨c0, c1, c2⟩ := hat k m hm
      have hba : Below wr.heap.size wr (wr.alloc (.cells m.cells 31)) := (Below.refl _ _).alloc (Nat.le_refl _) _
      have hzl : w.heap.size < wr.heap.size := X3.out.lt
      have X4 := Lib.hid (X3.out.below hba)
      have O4 := Lib.hid (O3.out.below hba)
      have B4 := Lib.hid (B3.out.trans (hba.mono B3.out.size))
      clear hba hat
      by_cases hq : m.n = n
      · obtain ⟨e1, e2⟩ := next_at H0.out hm hq
        obtain rfl : na = m := hna.symm.trans e1
        obtain rfl : nb = true := hnb.symm.trans e2
        subst hq
        clear e1 e2 hna hnb
        go_wp2_with ((with_reducible show wpList _ _ _ (Oper.mk none (Op.store _ (.tmp 4) _) _ _ _ _ :: _) _ _); refine wpList_store_al31 rfl (.tmp 4) (.tmp 19) rfl w.heap.size na Al.zero rfl rfl X4.out ?_; intro wF k1 k2; obtain ⟨d0, d1, d2⟩ := k1.all; have B5 := Lib.hid (below_grown B4.out k2 B4.out.size (by rintro k ⟨rfl⟩; exact Nat.le_refl _)); clear k1 k2)
        exact bodyPost_ret (v := .tuple #[na.val, .bool true]) (by simp [results, Try.results13, go_sem, d0, d1, d2]) rfl ⟨rfl, B5.out⟩
      · have hq1 : (m.n == n) = false := by simpa using hq
        go_wp2
        go_roundw
        case rel =>
          refine ⟨k + 1, by omega, by go_num, fun j x hj hx => ?_, X4.out, O4.out, B4.out⟩
          rcases Nat.lt_or_ge j k with h | h
          · exact H0.out j x h hx
          · obtain rfl : j = k := by omega
            rw [hm] at hx; cases hx; exact hq
        case measure => simp [intOf]; omega
    · have hlI : ¬ ((k : Int) < (l.length : Int)) := by omega
      obtain rfl : k = l.length := by omega
      obtain ⟨e1, e2⟩ := next_no H0.out
      obtain rfl : na = Al.zero := hna.symm.trans e1
      obtain rfl : nb = false := hnb.symm.trans e2
      clear e1 e2 hna hnb
      go_wp2_with ((with_reducible show wpList _ _ _ (Oper.mk none (Op.store _ (.tmp 4) _) _ _ _ _ :: _) _ _); refine wpList_store_al31 rfl (.tmp 4) (.tmp 21) rfl w.heap.size Al.zero Al.zero rfl rfl X3.out ?_; intro wF k1 k2; obtain ⟨d0, d1, d2⟩ := k1.all; have B5 := Lib.hid (below_grown B3.out k2 B3.out.size (by rintro k ⟨rfl⟩; exact Nat.le_refl _)); clear k1 k2)
      exact bodyPost_ret (v := .tuple #[Al.zero.val, .bool false]) (by simp [results, Try.results13, go_sem, d0, d1, d2]) rfl ⟨rfl, B5.out⟩
end Go.Proofs.Ytcanagecdniiiaa
