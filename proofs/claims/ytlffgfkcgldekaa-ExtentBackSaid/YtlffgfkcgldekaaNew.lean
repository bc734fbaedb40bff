/-
  New and List (package extent), by contracts.
-/
import Derived.Test.YtlffgfkcgldekaaAlloc
namespace Go.Proofs.Ytlffgfkcgldekaa
open Go.RowKit

theorem size0_is (n : Int) : (size0 n : Int) = if n < 1 then 1 else if 4096 < n then 4096 else n := by
  unfold size0; split; rfl; split; rfl; omega
theorem PB.fresh (n : Int) (w : World) : PBv ((w.alloc (.cells #[.int .i64 0, .int .i64 (size0 n : Int)] 30)).alloc (.cells #[.int .i64 (size0 n : Int), .slice (some ⟨w.heap.size, 0, none⟩) 1 1] 47)) (w.heap.size + 1) (fresh n) w.heap.size 1 := by
  refine ⟨?_, by omega, ⟨by simp; omega, by rw [runs_fresh]; exact Nat.le_refl _, by unfold maxLen; omega, fun i m hi => ?_⟩⟩
  · rw [heap_alloc2_new, runs_fresh]; rfl
  · rw [runs_fresh] at hi
    have h0 : i = 0 := by have := (List.getElem?_eq_some_iff.1 hi).1; simp at this; omega
    subst h0
    simp at hi
    subst hi
    have hc : ∀ j, ((w.alloc (.cells #[.int .i64 0, .int .i64 (size0 n : Int)] 30)).alloc (.cells #[.int .i64 (size0 n : Int), .slice (some ⟨w.heap.size, 0, none⟩) 1 1] 47)).cell? ⟨w.heap.size, j, none⟩ = (#[Value.int .i64 0, .int .i64 (size0 n : Int)])[j]? := fun j => cell_of_row _ _ _ _ _ _ (heap_alloc2_old w _ _)
    exact ⟨hc 0, hc 1⟩
set_option maxRecDepth 100000 in
set_option maxHeartbeats 1000000 in
theorem new_any (n : Int) (w : World) :
    Calls Try.prog 9 #[.int .i64 n] w fun e w' => e = .returned (.pointer (some ⟨w.heap.size + 1, 0, none⟩)) ∧ Goes (fun _ => False) w w' (PB w' (w.heap.size + 1) (fresh n)) := by
  have HP := Lib.hid (PB.fresh n w)
  have FIN := Lib.hid (show Goes (fun _ => False) w ((w.alloc (.cells #[.int .i64 0, .int .i64 (size0 n : Int)] 30)).alloc (.cells #[.int .i64 (size0 n : Int), .slice (some ⟨w.heap.size, 0, none⟩) 1 1] 47)) (PB _ (w.heap.size + 1) (fresh n)) from
    ⟨_, HP.out.pb, fun k hk => by rcases hk with rfl | rfl; (exact .inr (by omega)); (exact .inr (by omega)), Keeps.of_below (((Below.refl _ _).alloc (Nat.le_refl _) _).alloc (by simp) _)⟩)
  have hsz := size0_is n
  clear HP
  generalize (size0 n : Int) = m at FIN hsz
  by_cases h1 : n < 1
  · rw [if_pos h1] at hsz
    subst hsz
    go_enter Try.func9, Try.ntmps9
    go_wp2
    go_ret
    exact ⟨rfl, FIN.out⟩
  · rw [if_neg h1] at hsz
    by_cases h2 : 4096 < n
    · rw [if_pos h2] at hsz
      subst hsz
      go_enter Try.func9, Try.ntmps9
      go_wp2
      go_ret
      exact ⟨rfl, FIN.out⟩
    · rw [if_neg h2] at hsz
      subst hsz
      go_enter Try.func9, Try.ntmps9
      go_wp2
      go_ret
      exact ⟨rfl, FIN.out⟩

/-- A call answers a row of its own with the ranges l. -/
def RowOf (w w' : World) (l : List Rg) (e : Ending) : Prop := ∃ v, e = .returned v ∧ Owns w' w.heap.size v l
set_option maxRecDepth 100000 in
set_option maxHeartbeats 1000000 in
theorem clone_any (l : List Rg) (g cap : Nat) (w : World) (hl : Lst w g cap l) (hm : l.length ≤ 4096) :
    Calls Try.prog 35 #[.slice (some ⟨g, 0, none⟩) l.length cap] w fun e w' => RowOf w w' l e ∧ Below w.heap.size w w' := by
  have he : ∀ (w : World) (n c : Nat), (binOp .eql 28 (.slice (some ⟨g, 0, none⟩) n c) (.slice none 0 0)).run Try.prog w = .ok (.bool false) w := fun _ _ _ => rfl
  have HB1 := Lib.hid (show Below w.heap.size w (w.alloc (.cells #[] 30)) from (Below.refl _ _).alloc (Nat.le_refl _) _)
  have HO := Lib.hid (Owns.lit (w := w) (base := w.heap.size) (Nat.le_refl _))
  by_cases h0 : l = []
  · subst h0
    have hcap := hl.le
    clear hl
    go_enter Try.func35, Try.ntmps35
    go_wp2
    go_ret
    exact ⟨⟨_, rfl, HO.out⟩, HB1.out⟩
  · have HS := Lib.hid (hl.srcs0.below (w' := w.alloc (.cells #[] 30)) ((Below.refl _ _).alloc (Nat.le_refl _) _) : Srcs _ (.slice (some ⟨g, 0, none⟩) l.length cap) l)
    have H0 := Lib.hid h0
    obtain ⟨n, hn⟩ : ∃ n, l.length = n := ⟨_, rfl⟩
    have HN := Lib.hid hn
    rw [hn] at HS hm ⊢
    clear hl h0 hn
    go_enter Try.func35, Try.ntmps35
    go_wp2_with (first
      | (at_builtin; refine wpList_own (w0 := w) (L := n) (lm := l) rfl (.tmp 5) (.tmp 6) rfl HO.out HB1.out HS.out H0.out (by omega) rfl HN.out ?_; intro g2 cap2 w4 hA hB _ _; have A2 := Lib.hid hA; have B2 := Lib.hid hB; clear hA hB)
      | fail)
    go_ret
    exact ⟨⟨_, rfl, A2.out⟩, B2.out⟩
theorem list_any (b : Nat) (s : St) (F : Nat → Prop) (w : World) (hP : PB w b s F) (hG : Good s) :
    Calls Try.prog 20 #[.pointer (some ⟨b, 0, none⟩)] w fun e w' => RowOf w w' (runs s) e ∧ Below w.heap.size w w' := by
  obtain ⟨g, cap, h, rfl⟩ := hP.v
  obtain ⟨c0, c1, -⟩ := h.cells
  have HC := Lib.hid (clone_any (runs s) g cap w h.l (runs_length hG))
  clear h hG hP
  go_enter Try.func20, Try.ntmps20
  go_wp2_with (go_at_call 35; (with_reducible refine HC.out.mono ?_); rintro e w1 ⟨⟨v, rfl, hv⟩, hb⟩; have HV := Lib.hid hv; have HB1 := Lib.hid hb; clear hv hb)
  go_ret
  exact ⟨⟨_, rfl, HV.out⟩, HB1.out⟩
theorem frees_any (b : Nat) (s : St) (F : Nat → Prop) (w : World) (hP : PB w b s F) (hG : Good s) :
    Calls Try.prog 11 #[.pointer (some ⟨b, 0, none⟩)] w fun e w' => e = .returned (.int .i64 (cnt s.p s.n)) ∧ Below w.heap.size w w' := by
  obtain ⟨g, cap, h, rfl⟩ := hP.v
  exact free_any b s g cap w h hG
theorem iss_any (b : Nat) (s : St) (F : Nat → Prop) (i : Int) (w : World) (hP : PB w b s F) (hG : Good s) :
    Calls Try.prog 22 #[.pointer (some ⟨b, 0, none⟩), .int .i64 i] w fun e w' => e = .returned (.bool (s.p i)) ∧ Below w.heap.size w w' := by
  obtain ⟨g, cap, h, rfl⟩ := hP.v
  exact is_any b s g cap i w h hG
end Go.Proofs.Ytlffgfkcgldekaa
