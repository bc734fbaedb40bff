/-
  sort.Search at a closure that only reads; search and Is (package extent), by contracts.
-/
import Derived.Test.YtlffgfkcgldekaaLittle
namespace Go.Proofs.Ytlffgfkcgldekaa
open Go.RowKit

/-- search's closure answers whether p holds, and only draws. -/
def Tells (w : World) (x y : Value) (n : Nat) (p : Nat → Bool) : Prop :=
  ∀ (a m : Nat), a < n → Calls Try.prog 38 #[.int .i64 (a : Int), x, y] (w.drewN m) fun e w' => e = .returned (.bool (p a)) ∧ ∃ q, w' = w.drewN q
def Drawn (w w' : World) : Prop := ∃ q, w' = w.drewN q
set_option maxRecDepth 100000 in
set_option maxHeartbeats 1000000 in
theorem sort_any (x y : Value) (n k0 : Nat) (p : Nat → Bool) (w : World) (ht : Tells w x y n p) (hn : n ≤ 4096) (h1 : ∀ a, a < n → a < k0 → p a = false) (h2 : ∀ a, a < n → k0 ≤ a → p a = true) (hk : k0 ≤ n) :
    Calls Try.prog 37 #[.int .i64 (n : Int), .func (.func 38) #[] #[x, y]] w fun e w' => e = .returned (.int .i64 (k0 : Int)) ∧ Drawn w w' := by
  have HT := Lib.hid ht
  have H1 := Lib.hid h1
  have H2 := Lib.hid h2
  clear ht h1 h2
  go_enter Try.func37, Try.ntmps37
  go_wp2
  go_loopw [5, 6] (fun iv jv wr => ∃ i j q : Nat, i ≤ k0 ∧ k0 ≤ j ∧ j ≤ n ∧ iv = .int .i64 i ∧ jv = .int .i64 j ∧ wr = w.drewN q) (fun iv jv _ => (intOf jv).toNat - (intOf iv).toNat)
  case atStart => exact ⟨0, n, 0, Nat.zero_le _, hk, Nat.le_refl _, rfl, rfl, rfl⟩
  case round =>
    obtain ⟨i, j, q, hi, hj, hjn, rfl, rfl, rfl⟩ := hrel
    by_cases hlt : i < j
    · have hlI : (i : Int) < (j : Int) := by omega
      have hi0 : (0 : Int) ≤ (i : Int) := by omega
      obtain ⟨m, hm⟩ : ∃ m : Nat, ((i : Int) + (j : Int)) / 2 = (m : Int) := ⟨(i + j) / 2, by omega⟩
      have hmj : m < j := by omega
      have him : i ≤ m := by omega
      have e1 := HT.out m q (by omega)
      by_cases hmk : m < k0
      · rw [H1.out m (by omega) hmk] at e1
        have E1 := Lib.hid e1
        clear e1
        go_wp2_with (go_at_call 38; refine (E1.out).mono ?_; rintro e w' ⟨rfl, q', rfl⟩)
        go_roundw
        case rel => exact ⟨m + 1, j, q', by omega, hj, hjn, by go_num, rfl, rfl⟩
        case measure => simp [intOf]; omega
      · rw [H2.out m (by omega) (by omega)] at e1
        have E1 := Lib.hid e1
        clear e1
        go_wp2_with (go_at_call 38; refine (E1.out).mono ?_; rintro e w' ⟨rfl, q', rfl⟩)
        go_roundw
        case rel => exact ⟨i, m, q', hi, by omega, by omega, rfl, rfl, rfl⟩
        case measure => simp [intOf]; omega
    · have hlI : ¬ ((i : Int) < (j : Int)) := by omega
      obtain rfl : k0 = i := by omega
      go_wp2
      go_ret
      exact ⟨rfl, q, rfl⟩

set_option maxRecDepth 100000 in
theorem closure_any (b : Nat) (s : St) (g cap : Nat) (i : Int) (c1 c2 a m : Nat) (w : World) (x : Rg) (h : PBv w b s g cap) (hx : (runs s)[a]? = some x)
    (k1 : w.cell? ⟨c1, 0, none⟩ = some (.pointer (some ⟨b, 0, none⟩))) (k2 : w.cell? ⟨c2, 0, none⟩ = some (.int .i64 i)) :
    Calls Try.prog 38 #[.int .i64 (a : Int), .pointer (some ⟨c1, 0, none⟩), .pointer (some ⟨c2, 0, none⟩)] (w.drewN m) fun e w' => e = .returned (.bool (decide (i < x.t))) ∧ ∃ q, w' = w.drewN q := by
  have h0 := h.below (below_drewN (Below.refl _ w) m)
  have k1' : (w.drewN m).cell? ⟨c1, 0, none⟩ = some (.pointer (some ⟨b, 0, none⟩)) := k1
  have k2' : (w.drewN m).cell? ⟨c2, 0, none⟩ = some (.int .i64 i) := k2
  have FIN : ∀ n, ∃ q, (w.drewN m).drewN n = w.drewN q := fun n => ⟨m + n, by simp [World.drewN, Nat.add_assoc]⟩
  have HF := Lib.hid FIN
  clear h k1 k2 FIN
  obtain ⟨c0, cc, -⟩ := h0.cells
  have hcap := h0.l.le
  obtain ⟨a0, a1⟩ := h0.l.at_ a x hx
  have hlt : a < (runs s).length := (List.getElem?_eq_some_iff.1 hx).1
  clear h0 hx
  generalize w.drewN m = wd at *
  generalize (runs s).length = l at *
  obtain ⟨xf, xt⟩ := x
  have hlI : (a : Int) < (l : Int) := by omega
  have ha0 : (0 : Int) ≤ (a : Int) := by omega
  go_enter Try.func38, Try.ntmps38
  go_wp2
  go_quiet (fail)
  go_wp2
  go_ret
  exact ⟨rfl, HF.out _⟩

theorem Drawn.below {w w' : World} {B : Nat} {a : World} (h : Drawn w w') (hb : Below B a w) : Below B a w' := by obtain ⟨q, rfl⟩ := h; exact below_drewN hb q
set_option maxRecDepth 100000 in
set_option maxHeartbeats 1000000 in
theorem search_any (b : Nat) (s : St) (g cap : Nat) (i : Int) (w : World) (h : PBv w b s g cap) (hm : (runs s).length ≤ 4096) :
    Calls Try.prog 30 #[.pointer (some ⟨b, 0, none⟩), .int .i64 i] w fun e w' => e = .returned (.int .i64 (pos (runs s) i : Int)) ∧ Below w.heap.size w w' := by
  obtain ⟨c0, c1, -⟩ := h.cells
  have hlt := h.lt
  have hs := (runs_is s).sep
  have hp := pos_le (runs s) i
  have hB2 : Below w.heap.size w ((w.alloc (.cells #[.pointer (some ⟨b, 0, none⟩)] 23)).alloc (.cells #[.int .i64 i] 3)) := ((Below.refl _ _).alloc (Nat.le_refl _) _).alloc (by simp) _
  have HB2 := Lib.hid hB2
  have HT : Hid (Tells ((w.alloc (.cells #[.pointer (some ⟨b, 0, none⟩)] 23)).alloc (.cells #[.int .i64 i] 3)) (.pointer (some ⟨w.heap.size, 0, none⟩)) (.pointer (some ⟨w.heap.size + 1, 0, none⟩)) (runs s).length (fun a => match (runs s)[a]? with | none => false | some x => decide (i < x.t))) := by
    intro a m ha
    obtain ⟨x, hx⟩ := ex_get ha
    have := closure_any b s g cap i w.heap.size (w.heap.size + 1) a m _ x (h.below hB2) hx (by rw [cell_of_row _ _ _ _ _ _ (heap_alloc2_old w _ _)]; rfl) (by rw [cell_of_row _ _ _ _ _ _ (heap_alloc2_new w _ _)]; rfl)
    simpa [hx] using this
  have HS := Lib.hid (sort_any _ _ _ (pos (runs s) i) _ _ HT.out hm (fun a ha hk => by obtain ⟨x, hx⟩ := ex_get ha; have := pos_lt hx hk; simp only [hx]; simp; omega) (fun a ha hk => by obtain ⟨x, hx⟩ := ex_get ha; have := pos_ge hs (i := i) hx hk; simp only [hx]; simpa using this) hp)
  clear HT h hs hB2 hp
  generalize pos (runs s) i = k at *
  generalize (runs s).length = l at *
  go_enter Try.func30, Try.ntmps30
  go_wp2_with (go_at_call 37; refine (HS.out).mono ?_; rintro e w' ⟨rfl, hw'⟩; have HD := Lib.hid hw'; clear hw')
  go_ret
  exact ⟨rfl, HD.out.below HB2.out⟩

set_option maxRecDepth 100000 in
theorem is_any (b : Nat) (s : St) (g cap : Nat) (i : Int) (w : World) (h : PBv w b s g cap) (hG : Good s) :
    Calls Try.prog 22 #[.pointer (some ⟨b, 0, none⟩), .int .i64 i] w fun e w' => e = .returned (.bool (s.p i)) ∧ Below w.heap.size w w' := by
  have hp := pos_le (runs s) i
  have HS := Lib.hid (search_any b s g cap i w h (runs_length hG))
  have HH := Lib.hid (fun w1 (k : Below w.heap.size w w1) => holds_any b s g cap (pos (runs s) i) i w1 (h.below k) hp)
  have HE := Lib.hid (holds_is hG i)
  clear h hp hG
  generalize holdsB (runs s) (pos (runs s) i) i = hb at *
  generalize pos (runs s) i = k at *
  go_enter Try.func22, Try.ntmps22
  go_wp2_with (first
    | (go_at_call 30; refine (HS.out).mono ?_; rintro e w1 ⟨rfl, hw1⟩; have HB := Lib.hid hw1; clear hw1)
    | (go_at_call 31; refine (HH.out _ HB.out).mono ?_; rintro e w2 ⟨rfl, rfl⟩)
    | fail)
  go_ret
  exact ⟨congrArg (fun z => Ending.returned (Value.bool z)) HE.out, HB.out⟩
end Go.Proofs.Ytlffgfkcgldekaa
