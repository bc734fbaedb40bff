/-
  putIn (package extent), by a contract.
-/
import Derived.Test.YtlffgfkcgldekaaCutOut
namespace Go.Proofs.Ytlffgfkcgldekaa
open Go.RowKit

/-- What replace leaves, for numbers as the walk spells them. -/
theorem put_replace {b : Nat} {s s' : St} {g cap : Nat} {w : World} (h : PBv w b s g cap) (hG : Good s) (first behind : Nat) (F B : Int) (q : Rg) (hF : (first : Int) = F) (hB : (behind : Int) = B) (h1 : first ≤ (runs s).length) (h2 : behind ≤ (runs s).length) (hn : s'.n = s.n) (he : (runs s).take first ++ ([q] ++ (runs s).drop behind) = runs s') :
    Hid (∀ (W : World) (v : Value), Below w.heap.size w W → Srcs W v [q] → Calls Try.prog 36 #[.pointer (some ⟨b, 0, none⟩), .int .i64 F, .int .i64 B, v] W fun e w' => e = .returned (.tuple #[]) ∧ Goes (fun k => k = b ∨ k = g) w w' (PB w' b s')) := by
  intro W v hW hv
  subst hF hB
  exact (replace_any b s s' g cap first behind v [q] W (h.below hW) hv h1 h2 (by simp) (runs_length hG) hn he).mono fun e w' ⟨he, hk⟩ => ⟨he, Goes.trans (fun _ h => .inl h) (Keeps.of_below hW) hk⟩
theorem below_made {w W : World} (h : Below w.heap.size w W) (q : Rg) (t : TypeId) : Below w.heap.size w (W.alloc (.cells q.cells t)) := h.alloc h.size _

set_option maxRecDepth 100000 in
set_option maxHeartbeats 8000000 in
theorem putIn_any (b : Nat) (s : St) (g cap : Nat) (r : Rg) (w : World) (h : PBv w b s g cap) (hG : Good s) (hr : mayE s r = 0) (ha : All s r false) :
    Calls Try.prog 34 #[.pointer (some ⟨b, 0, none⟩), .int .i64 (pos (runs s) r.f : Int), r.val] w fun e w' => e = .returned (.tuple #[]) ∧ Goes (fun k => k = b ∨ k = g) w w' (PB w' b (set s r true)) := by
  have hm := runs_length hG
  have hcap := h.l.le
  have hpl := pos_le (runs s) r.f
  have HC := Lib.hid (fun W (hW : Below w.heap.size w W) => (h.below hW).cells.2.1)
  have HL := Lib.hid (fun W (hW : Below w.heap.size w W) i x hi => (h.below hW).l.at_ i x hi)
  have HB := Lib.hid (show Below w.heap.size w (w.alloc (.cells #[.int .i64 r.f, .int .i64 r.t] 30)) from (Below.refl _ _).alloc (Nat.le_refl _) _)
  have Hb := h.lt
  have Hg := h.l.lt
  have HR := Lib.hid (fun first behind F B q h1 h2 h3 h4 => put_replace (s' := set s r true) h hG first behind F B q h1 h2 h3 h4 rfl)
  have HN := Lib.hid (put_none hG hr ha)
  have HLL := Lib.hid (fun x (hk : 0 < pos (runs s) r.f) hx hxt => put_left hG hr ha (x := x) hk hx hxt)
  have HRR := Lib.hid (fun y hL hy hyf => put_right hG hr ha (y := y) hL hy hyf)
  have HBB := Lib.hid (fun x y hk hx hxt hy hyf => put_both hr (x := x) (y := y) hk hx hxt hy hyf)
  clear h hG ha
  have hrl := mayE_zero hr
  clear hr
  generalize hk : pos (runs s) r.f = k at *
  clear hk
  obtain ⟨rf, rt⟩ := r
  show Calls _ _ #[_, _, .agg #[.int .i64 rf, .int .i64 rt]] w _
  replace hrl : rf < rt ∧ 0 ≤ rf ∧ rt ≤ (s.n : Int) := hrl
  generalize hn : (runs s).length = n at *
  have HNN := Lib.hid hn
  clear hn
  have hk0 : (0 : Int) ≤ (k : Int) := by omega
  obtain c1 := HC.out _ (Below.refl _ _)
  by_cases hkz : k = 0
  · subst hkz
    rw [show (((0 : Nat)) : Int) = 0 from rfl]
    by_cases hkn : 0 < n
    · have hkI : (0 : Int) < (n : Int) := by omega
      obtain ⟨⟨yf, yt⟩, hy⟩ := ex_get (l := runs s) (k := 0) (by rw [HNN.out]; exact hkn)
      obtain ⟨b0, b1⟩ := HL.out _ (Below.refl _ _) _ _ hy
      replace b0 : w.cell? ⟨g, 0 * 2, none⟩ = some (.int .i64 yf) := b0
      replace b1 : w.cell? ⟨g, 0 * 2 + 1, none⟩ = some (.int .i64 yt) := b1
      have HY := Lib.hid hy
      clear hy
      by_cases q2 : yf = rt
      · subst q2
        have HR1 := HR.out (0) (0 + 1) 0 1 ⟨rf, yt⟩ (by omega) (by omega) (by omega) (by omega) (HRR.out _ (fun hj => by obtain ⟨_, h0, _⟩ := hj; omega) HY.out rfl)
        clear HR HN HLL HRR HBB HC
        go_enter Try.func34, Try.ntmps34
        go_wp2
        go_quiet (fail)
        go_wp2
        go_quiet (fail)
        go_wp2_with (first
          | (go_at_call 36; with_reducible refine (HR1.out _ _ ?hB ?hS).mono ?_; (case hB => exact below_made ((below_drewN ((Below.refl _ _).alloc (Nat.le_refl _) _) _).setCell (by simp) _) ⟨rf, yt⟩ _); (case hS => exact srcs_new' (by simp) ⟨rf, yt⟩ _ _); rintro e w5 ⟨rfl, hk⟩; have HK := Lib.hid hk; clear hk)
          | fail)
        go_end0
        exact ⟨rfl, HK.out⟩
      · have q2b : (yf == rt) = false := by simpa using q2
        have HR1 := HR.out (0) (0) 0 0 ⟨rf, rt⟩ (by omega) (by omega) (by omega) (by omega) (HN.out (fun hj => by obtain ⟨_, h0, _⟩ := hj; omega) (fun hj => by obtain ⟨y', hy', ht'⟩ := hj; rw [HY.out] at hy'; cases hy'; exact q2 ht'))
        clear HR HN HLL HRR HBB HC
        go_enter Try.func34, Try.ntmps34
        go_wp2
        go_quiet (fail)
        go_wp2
        go_quiet (fail)
        go_wp2_with (first
          | (go_at_call 36; with_reducible refine (HR1.out _ _ ?hB ?hS).mono ?_; (case hB => exact below_made (below_drewN ((Below.refl _ _).alloc (Nat.le_refl _) _) _) ⟨rf, rt⟩ _); (case hS => exact srcs_new' (by simp) ⟨rf, rt⟩ _ _); rintro e w5 ⟨rfl, hk⟩; have HK := Lib.hid hk; clear hk)
          | fail)
        go_end0
        exact ⟨rfl, HK.out⟩
    · have hkI : ¬ ((0 : Int) < (n : Int)) := by omega
      obtain rfl : n = 0 := by omega
      have HR1 := HR.out (0) (0) 0 0 ⟨rf, rt⟩ (by omega) (by omega) (by omega) (by omega) (HN.out (fun hj => by obtain ⟨_, h0, _⟩ := hj; omega) (fun hj => by obtain ⟨y', hy', _⟩ := hj; have := (List.getElem?_eq_some_iff.1 hy').1; have := HNN.out; omega))
      clear HR HN HLL HRR HBB HC
      go_enter Try.func34, Try.ntmps34
      go_wp2
      go_quiet (fail)
      go_wp2
      go_quiet (fail)
      go_wp2_with (first
        | (go_at_call 36; with_reducible refine (HR1.out _ _ ?hB ?hS).mono ?_; (case hB => exact below_made (below_drewN ((Below.refl _ _).alloc (Nat.le_refl _) _) _) ⟨rf, rt⟩ _); (case hS => exact srcs_new' (by simp) ⟨rf, rt⟩ _ _); rintro e w5 ⟨rfl, hk⟩; have HK := Lib.hid hk; clear hk)
        | fail)
      go_end0
      exact ⟨rfl, HK.out⟩
  · have hkp : 0 < k := by omega
    have hkpI : (0 : Int) < (k : Int) := by omega
    have hk1 : (0 : Int) ≤ (k : Int) - 1 := by omega
    have hk1n : ((k : Int) - 1).toNat = k - 1 := by omega
    obtain ⟨⟨xf, xt⟩, hx⟩ := ex_get (l := runs s) (k := k - 1) (by rw [HNN.out]; omega)
    obtain ⟨a0, a1⟩ := HL.out _ (Below.refl _ _) _ _ hx
    replace a0 : w.cell? ⟨g, (k - 1) * 2, none⟩ = some (.int .i64 xf) := a0
    replace a1 : w.cell? ⟨g, (k - 1) * 2 + 1, none⟩ = some (.int .i64 xt) := a1
    have HX := Lib.hid hx
    clear hx
    by_cases q1 : xt = rf
    · subst q1
      by_cases hkn : k < n
      · have hkI : (k : Int) < (n : Int) := by omega
        obtain ⟨⟨yf, yt⟩, hy⟩ := ex_get (l := runs s) (k := k) (by rw [HNN.out]; exact hkn)
        obtain ⟨b0, b1⟩ := HL.out _ (Below.refl _ _) _ _ hy
        replace b0 : w.cell? ⟨g, k * 2, none⟩ = some (.int .i64 yf) := b0
        replace b1 : w.cell? ⟨g, k * 2 + 1, none⟩ = some (.int .i64 yt) := b1
        have HY := Lib.hid hy
        clear hy
        by_cases q2 : yf = rt
        · subst q2
          have HR1 := HR.out (k - 1) (k + 1) ((k : Int) - 1) ((k : Int) + 1) ⟨xf, yt⟩ (by omega) (by omega) (by omega) (by omega) (HBB.out _ _ hkp HX.out rfl HY.out rfl)
          clear HR HN HLL HRR HBB HC
          go_enter Try.func34, Try.ntmps34
          go_wp2
          go_quiet (fail)
          go_wp2
          go_quiet (fail)
          go_wp2_with (first
            | (go_at_call 36; with_reducible refine (HR1.out _ _ ?hB ?hS).mono ?_; (case hB => exact below_made ((below_drewN ((below_drewN ((Below.refl _ _).alloc (Nat.le_refl _) _) _).setCell (by simp) _) _).setCell (by simp) _) ⟨xf, yt⟩ _); (case hS => exact srcs_new' (by simp) ⟨xf, yt⟩ _ _); rintro e w5 ⟨rfl, hk⟩; have HK := Lib.hid hk; clear hk)
            | fail)
          go_end0
          exact ⟨rfl, HK.out⟩
        · have q2b : (yf == rt) = false := by simpa using q2
          have HR1 := HR.out (k - 1) (k) ((k : Int) - 1) (k : Int) ⟨xf, rt⟩ (by omega) (by omega) (by omega) (by omega) (HLL.out _ hkp HX.out rfl (fun hj => by obtain ⟨y', hy', ht'⟩ := hj; rw [HY.out] at hy'; cases hy'; exact q2 ht'))
          clear HR HN HLL HRR HBB HC
          go_enter Try.func34, Try.ntmps34
          go_wp2
          go_quiet (fail)
          go_wp2
          go_quiet (fail)
          go_wp2_with (first
            | (go_at_call 36; with_reducible refine (HR1.out _ _ ?hB ?hS).mono ?_; (case hB => exact below_made (below_drewN ((below_drewN ((Below.refl _ _).alloc (Nat.le_refl _) _) _).setCell (by simp) _) _) ⟨xf, rt⟩ _); (case hS => exact srcs_new' (by simp) ⟨xf, rt⟩ _ _); rintro e w5 ⟨rfl, hk⟩; have HK := Lib.hid hk; clear hk)
            | fail)
          go_end0
          exact ⟨rfl, HK.out⟩
      · have hkI : ¬ ((k : Int) < (n : Int)) := by omega
        obtain rfl : n = k := by omega
        have HR1 := HR.out (n - 1) (n) ((n : Int) - 1) (n : Int) ⟨xf, rt⟩ (by omega) (by omega) (by omega) (by omega) (HLL.out _ hkp HX.out rfl (fun hj => by obtain ⟨y', hy', _⟩ := hj; have := (List.getElem?_eq_some_iff.1 hy').1; have := HNN.out; omega))
        clear HR HN HLL HRR HBB HC
        go_enter Try.func34, Try.ntmps34
        go_wp2
        go_quiet (fail)
        go_wp2
        go_quiet (fail)
        go_wp2_with (first
          | (go_at_call 36; with_reducible refine (HR1.out _ _ ?hB ?hS).mono ?_; (case hB => exact below_made (below_drewN ((below_drewN ((Below.refl _ _).alloc (Nat.le_refl _) _) _).setCell (by simp) _) _) ⟨xf, rt⟩ _); (case hS => exact srcs_new' (by simp) ⟨xf, rt⟩ _ _); rintro e w5 ⟨rfl, hk⟩; have HK := Lib.hid hk; clear hk)
          | fail)
        go_end0
        exact ⟨rfl, HK.out⟩
    · have q1b : (xt == rf) = false := by simpa using q1
      by_cases hkn : k < n
      · have hkI : (k : Int) < (n : Int) := by omega
        obtain ⟨⟨yf, yt⟩, hy⟩ := ex_get (l := runs s) (k := k) (by rw [HNN.out]; exact hkn)
        obtain ⟨b0, b1⟩ := HL.out _ (Below.refl _ _) _ _ hy
        replace b0 : w.cell? ⟨g, k * 2, none⟩ = some (.int .i64 yf) := b0
        replace b1 : w.cell? ⟨g, k * 2 + 1, none⟩ = some (.int .i64 yt) := b1
        have HY := Lib.hid hy
        clear hy
        by_cases q2 : yf = rt
        · subst q2
          have HR1 := HR.out (k) (k + 1) (k : Int) ((k : Int) + 1) ⟨rf, yt⟩ (by omega) (by omega) (by omega) (by omega) (HRR.out _ (fun hj => by obtain ⟨x', _, hx', ht'⟩ := hj; rw [HX.out] at hx'; cases hx'; exact q1 ht') HY.out rfl)
          clear HR HN HLL HRR HBB HC
          go_enter Try.func34, Try.ntmps34
          go_wp2
          go_quiet (fail)
          go_wp2
          go_quiet (fail)
          go_wp2_with (first
            | (go_at_call 36; with_reducible refine (HR1.out _ _ ?hB ?hS).mono ?_; (case hB => exact below_made ((below_drewN ((Below.refl _ _).alloc (Nat.le_refl _) _) _).setCell (by simp) _) ⟨rf, yt⟩ _); (case hS => exact srcs_new' (by simp) ⟨rf, yt⟩ _ _); rintro e w5 ⟨rfl, hk⟩; have HK := Lib.hid hk; clear hk)
            | fail)
          go_end0
          exact ⟨rfl, HK.out⟩
        · have q2b : (yf == rt) = false := by simpa using q2
          have HR1 := HR.out (k) (k) (k : Int) (k : Int) ⟨rf, rt⟩ (by omega) (by omega) (by omega) (by omega) (HN.out (fun hj => by obtain ⟨x', _, hx', ht'⟩ := hj; rw [HX.out] at hx'; cases hx'; exact q1 ht') (fun hj => by obtain ⟨y', hy', ht'⟩ := hj; rw [HY.out] at hy'; cases hy'; exact q2 ht'))
          clear HR HN HLL HRR HBB HC
          go_enter Try.func34, Try.ntmps34
          go_wp2
          go_quiet (fail)
          go_wp2
          go_quiet (fail)
          go_wp2_with (first
            | (go_at_call 36; with_reducible refine (HR1.out _ _ ?hB ?hS).mono ?_; (case hB => exact below_made (below_drewN ((Below.refl _ _).alloc (Nat.le_refl _) _) _) ⟨rf, rt⟩ _); (case hS => exact srcs_new' (by simp) ⟨rf, rt⟩ _ _); rintro e w5 ⟨rfl, hk⟩; have HK := Lib.hid hk; clear hk)
            | fail)
          go_end0
          exact ⟨rfl, HK.out⟩
      · have hkI : ¬ ((k : Int) < (n : Int)) := by omega
        obtain rfl : n = k := by omega
        have HR1 := HR.out (n) (n) (n : Int) (n : Int) ⟨rf, rt⟩ (by omega) (by omega) (by omega) (by omega) (HN.out (fun hj => by obtain ⟨x', _, hx', ht'⟩ := hj; rw [HX.out] at hx'; cases hx'; exact q1 ht') (fun hj => by obtain ⟨y', hy', _⟩ := hj; have := (List.getElem?_eq_some_iff.1 hy').1; have := HNN.out; omega))
        clear HR HN HLL HRR HBB HC
        go_enter Try.func34, Try.ntmps34
        go_wp2
        go_quiet (fail)
        go_wp2
        go_quiet (fail)
        go_wp2_with (first
          | (go_at_call 36; with_reducible refine (HR1.out _ _ ?hB ?hS).mono ?_; (case hB => exact below_made (below_drewN ((Below.refl _ _).alloc (Nat.le_refl _) _) _) ⟨rf, rt⟩ _); (case hS => exact srcs_new' (by simp) ⟨rf, rt⟩ _ _); rintro e w5 ⟨rfl, hk⟩; have HK := Lib.hid hk; clear hk)
          | fail)
        go_end0
        exact ⟨rfl, HK.out⟩
end Go.Proofs.Ytlffgfkcgldekaa
