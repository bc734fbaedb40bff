/-
  cutOut (package extent), by a contract.
-/
import Derived.Test.YtlffgfkcgldekaaReplace
namespace Go.Proofs.Ytlffgfkcgldekaa
open Go.RowKit

/-- Two ranges in blocks of their own stay as they are. -/
def TwoB (N : Nat) (r x : Rg) (W : World) : Prop := (W.cell? ⟨N, 0, none⟩ = some (.int .i64 r.f) ∧ W.cell? ⟨N, 1, none⟩ = some (.int .i64 r.t)) ∧ (W.cell? ⟨N + 1, 0, none⟩ = some (.int .i64 x.f) ∧ W.cell? ⟨N + 1, 1, none⟩ = some (.int .i64 x.t))
theorem twoB (w : World) (r x : Rg) (t : TypeId) : TwoB w.heap.size r x ((w.alloc (.cells r.cells t)).alloc (.cells x.cells t)) := by
  have h1 := boxed w r t
  have h2 := boxed (w.alloc (.cells r.cells t)) x t
  rw [World.size_alloc] at h2
  have hb : Below (w.heap.size + 1) (w.alloc (.cells r.cells t)) ((w.alloc (.cells r.cells t)).alloc (.cells x.cells t)) := (Below.refl _ _).alloc (by simp) _
  exact ⟨⟨(hb.cell (p := ⟨w.heap.size, 0, none⟩) (by simp)).trans h1.1, (hb.cell (p := ⟨w.heap.size, 1, none⟩) (by simp)).trans h1.2⟩, h2⟩
theorem TwoB.grown {N : Nat} {r x : Rg} {W W' : World} (h : TwoB N r x W) (hg : W.grownBy W' none) (hN : N + 2 ≤ W.heap.size) : TwoB N r x W' := by
  obtain ⟨⟨a, b⟩, c, d⟩ := h
  have k : ∀ q o, q < N + 2 → W'.cell? ⟨q, o, none⟩ = W.cell? ⟨q, o, none⟩ := fun q o hq => hg.cell_far ⟨q, o, none⟩ (by show q < _; omega) (by simp)
  exact ⟨⟨(k _ _ (by omega)).trans a, (k _ _ (by omega)).trans b⟩, (k _ _ (by omega)).trans c, (k _ _ (by omega)).trans d⟩

set_option maxRecDepth 100000 in
set_option maxHeartbeats 4000000 in
theorem cutOut_any (b : Nat) (s : St) (g cap k : Nat) (x r : Rg) (w : World) (h : PBv w b s g cap) (hG : Good s) (hx : (runs s)[k]? = some x) (h1 : x.f ≤ r.f) (h2 : r.f < r.t) (h3 : r.t ≤ x.t) :
    Calls Try.prog 27 #[.pointer (some ⟨b, 0, none⟩), .int .i64 (k : Int), r.val] w fun e w' => e = .returned (.tuple #[]) ∧ Goes (fun k => k = b ∨ k = g) w w' (PB w' b (set s r false)) := by
  have hlt : k < (runs s).length := (List.getElem?_eq_some_iff.1 hx).1
  have hm := runs_length hG
  have hcap := h.l.le
  have HC := Lib.hid (fun W (hW : Below w.heap.size w W) => show W.cell? ⟨b, 1, none⟩ = _ ∧ _ from ⟨(h.below hW).cells.2.1, (h.below hW).l.at_ k x hx⟩)
  have hrl : (rest x r).length ≤ 2 := by unfold rest; rw [List.length_append]; split <;> split <;> simp
  have HR := Lib.hid (fun W v (hW : Below w.heap.size w W) (hv : Srcs W v (rest x r)) => show Calls Try.prog 36 #[.pointer (some ⟨b, 0, none⟩), .int .i64 (k : Int), .int .i64 ((k : Int) + 1), v] W fun e w' => e = .returned (.tuple #[]) ∧ Goes (fun k => k = b ∨ k = g) W w' (PB w' b (set s r false)) from by
    have h0 := replace_any b s (set s r false) g cap k (k + 1) v (rest x r) W (h.below hW) hv (by omega) (by omega) (by omega) hm rfl (cut_runs hx h1 h2 h3)
    rwa [show ((k + 1 : Nat) : Int) = (k : Int) + 1 by omega] at h0)
  have HW := Lib.hid (fun W w' (hW : Below w.heap.size w W) (hg : Goes (fun k => k = b ∨ k = g) W w' (PB w' b (set s r false))) => show Goes (fun k => k = b ∨ k = g) w w' (PB w' b (set s r false)) from Goes.trans (fun _ h => .inl h) (Keeps.of_below hW) hg)
  obtain ⟨c1, c2, c3⟩ := HC.out _ (Below.refl _ _)
  have hb := h.lt
  have hg := h.l.lt
  clear h hG hx hrl
  generalize (runs s).length = n at *
  have hlI : (k : Int) < (n : Int) := by omega
  have hk0 : (0 : Int) ≤ (k : Int) := by omega
  obtain ⟨xf, xt⟩ := x
  obtain ⟨rf, rt⟩ := r
  unfold rest at HR
  show Calls _ _ #[_, _, .agg #[.int .i64 rf, .int .i64 rt]] w _
  replace h1 : xf ≤ rf := h1
  replace h2 : rf < rt := h2
  replace h3 : rt ≤ xt := h3
  have hB2 : Below w.heap.size w ((w.alloc (.cells #[.int .i64 rf, .int .i64 rt] 30)).alloc (.cells #[.int .i64 xf, .int .i64 xt] 30)) := ((Below.refl _ _).alloc (Nat.le_refl _) _).alloc (by simp) _
  have HB2 := Lib.hid hB2
  have hT2 : TwoB w.heap.size ⟨rf, rt⟩ ⟨xf, xt⟩ ((w.alloc (.cells #[.int .i64 rf, .int .i64 rt] 30)).alloc (.cells #[.int .i64 xf, .int .i64 xt] 30)) := twoB w ⟨rf, rt⟩ ⟨xf, xt⟩ _
  have HT2 := Lib.hid hT2
  clear hB2 hT2
  have HB3 := Lib.hid (HB2.out.alloc (by simp only [World.size_alloc]; omega) (.cells #[.int .i64 xf, .int .i64 rf] 30))
  have HT3 := Lib.hid (HT2.out.grown (grown_of_below ((Below.refl _ _).alloc (Nat.le_refl _) (.cells #[.int .i64 xf, .int .i64 rf] 30)) none) (by simp))
  have HS3 := Lib.hid (srcs_new' (w := (w.alloc (.cells #[.int .i64 rf, .int .i64 rt] 30)).alloc (.cells #[.int .i64 xf, .int .i64 xt] 30)) (N := w.heap.size + 1 + 1) (by simp) ⟨xf, rf⟩ 1 30)
  by_cases q1 : xf < rf
  · by_cases q2 : rt < xt
    · rw [if_pos q1, if_pos q2] at HR
      go_enter Try.func27, Try.ntmps27
      go_wp2_with (first
        | (at_builtin; refine wpList_own (w0 := w) rfl (.tmp 20) (.tmp 26) rfl (owns_nil _ _) HB3.out HS3.out (by simp) (show 1 ≤ 100000 by omega) rfl rfl ?_; intro g1 cap1 w3 hA hB hg _; have HT4 := Lib.hid (HT3.out.grown hg (by simp)); have A1 := Lib.hid hA; have B1 := Lib.hid hB; (obtain ⟨⟨y1, y2⟩, y3, y4⟩ := HT4.out); clear hA hB hg; have HB5 := Lib.hid (B1.out.alloc B1.out.size (.cells #[.int .i64 rt, .int .i64 xt] 30)); have HS5 := Lib.hid (srcs_new w3 ⟨rt, xt⟩ 1 30); have HA5 := Lib.hid (A1.out.below ((Below.refl _ _).alloc (Nat.le_refl _) (.cells #[.int .i64 rt, .int .i64 xt] 30))))
        | (at_builtin; refine wpList_own (w0 := w) rfl (.tmp 33) (.tmp 39) rfl HA5.out HB5.out HS5.out (by simp) (show 2 ≤ 100000 by omega) rfl rfl ?_; intro g2 cap2 w4 hA hB _ _; have A2 := Lib.hid hA; have B2 := Lib.hid hB; clear hA hB)
        | (go_at_call 36; with_reducible refine (HR.out w4 _ B2.out A2.out.srcs).mono ?_; rintro e w5 ⟨rfl, hk⟩; have HK := Lib.hid (HW.out _ _ B2.out hk); clear hk)
        | fail)
      go_end0
      exact ⟨rfl, HK.out⟩
    · rw [if_pos q1, if_neg q2] at HR
      go_enter Try.func27, Try.ntmps27
      go_wp2_with (first
        | (at_builtin; refine wpList_own (w0 := w) rfl (.tmp 20) (.tmp 26) rfl (owns_nil _ _) HB3.out HS3.out (by simp) (show 1 ≤ 100000 by omega) rfl rfl ?_; intro g1 cap1 w3 hA hB hg _; have HT4 := Lib.hid (HT3.out.grown hg (by simp)); have A1 := Lib.hid hA; have B1 := Lib.hid hB; (obtain ⟨⟨y1, y2⟩, y3, y4⟩ := HT4.out); clear hA hB hg; have HB5 := Lib.hid (B1.out.alloc B1.out.size (.cells #[.int .i64 rt, .int .i64 xt] 30)); have HS5 := Lib.hid (srcs_new w3 ⟨rt, xt⟩ 1 30); have HA5 := Lib.hid (A1.out.below ((Below.refl _ _).alloc (Nat.le_refl _) (.cells #[.int .i64 rt, .int .i64 xt] 30))))
        | (go_at_call 36; with_reducible refine (HR.out w3 _ B1.out A1.out.srcs).mono ?_; rintro e w5 ⟨rfl, hk⟩; have HK := Lib.hid (HW.out _ _ B1.out hk); clear hk)
        | fail)
      go_end0
      exact ⟨rfl, HK.out⟩
  · by_cases q2 : rt < xt
    · rw [if_neg q1, if_pos q2] at HR
      have HB4 := Lib.hid (HB2.out.alloc (by simp only [World.size_alloc]; omega) (.cells #[.int .i64 rt, .int .i64 xt] 30))
      have HS4 := Lib.hid (srcs_new' (w := (w.alloc (.cells #[.int .i64 rf, .int .i64 rt] 30)).alloc (.cells #[.int .i64 xf, .int .i64 xt] 30)) (N := w.heap.size + 1 + 1) (by simp) ⟨rt, xt⟩ 1 30)
      go_enter Try.func27, Try.ntmps27
      go_wp2_with (first
        | (at_builtin; refine wpList_own (w0 := w) rfl (.tmp 33) (.tmp 39) rfl (owns_nil _ _) HB4.out HS4.out (by simp) (show 1 ≤ 100000 by omega) rfl rfl ?_; intro g2 cap2 w4 hA hB _ _; have A2 := Lib.hid hA; have B2 := Lib.hid hB; clear hA hB)
        | (go_at_call 36; with_reducible refine (HR.out w4 _ B2.out A2.out.srcs).mono ?_; rintro e w5 ⟨rfl, hk⟩; have HK := Lib.hid (HW.out _ _ B2.out hk); clear hk)
        | fail)
      go_end0
      exact ⟨rfl, HK.out⟩
    · rw [if_neg q1, if_neg q2] at HR
      have HN := Lib.hid (fun W => show Srcs W (.slice none 0 0) ([] ++ []) from .inl ⟨rfl, rfl⟩)
      go_enter Try.func27, Try.ntmps27
      go_wp2_with (first
        | (go_at_call 36; with_reducible refine (HR.out _ _ HB2.out (HN.out _)).mono ?_; rintro e w5 ⟨rfl, hk⟩; have HK := Lib.hid (HW.out _ _ HB2.out hk); clear hk)
        | fail)
      go_end0
      exact ⟨rfl, HK.out⟩
end Go.Proofs.Ytlffgfkcgldekaa
