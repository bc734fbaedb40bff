/-
  Same of the same errors; alike of an error and a fault with the same errors: true.
-/
import Derived.Test.YtjgicapjbibioaaDoorRef
namespace Go.Proofs.YtjgicapjbibioaaDoor
open Go.RowKit Go.Extern.Stop Go.Stop Go.Extern Go.PlainAid Go.Lib

theorem RF.of_owned {w : World} {base : Nat} {e : TypeId} {s : Value} {es : List Int} (h : w.ownsRow base e 1 s es.length (es.map (Value.int .i64))) : ∃ A c, s = .slice A es.length c ∧ RF w A es.length c es := by
  have h' := h
  obtain ⟨h1, h2 | ⟨g, cap, cur, hv, hg, hh, hnc, _⟩⟩ := h
  · obtain ⟨rfl, h0⟩ := h2
    have : es = [] := List.eq_nil_of_length_eq_zero h0
    subst this
    exact ⟨none, 0, rfl, RF.none_⟩
  · refine ⟨_, cap, hv, rfl, hnc, .inr ⟨g, rfl, fun j x hx => ?_⟩⟩
    have := h'.cells (g := g) (by rw [hv]; rfl) j (.int .i64 x) (by rw [List.getElem?_map, hx]; rfl)
    have e : (⟨g, 0, none⟩ : Addr).add j = ⟨g, j, none⟩ := by
      by_cases hj : j = 0 <;> simp [Addr.add, hj]
    rw [e] at this; exact this

set_option maxRecDepth 100000 in
theorem same_yes (A B : Option Addr) (n c d : Nat) (es : List Int) (w : World) (hA : RF w A n c es) (hB : RF w B n d es) (hn : n ≤ 1000) :
    Calls Tryd.prog 14 #[.slice A n c, .slice B n d] w fun e w' => e = .returned (.bool true) ∧ Below w.heap.size w w' := by
  obtain ⟨a1, a2, a3⟩ := hA
  obtain ⟨b1, b2, b3⟩ := hB
  have H3 := Lib.hid a3
  have H4 := Lib.hid b3
  have H1 := Lib.hid a1
  clear a1 b1 a3 b3
  go_enter Tryd.func14, Tryd.ntmps14
  go_wp2
  go_loopw [5] (fun i wr => ∃ k : Nat, k ≤ n ∧ i = .int .i64 k ∧ ∃ m, wr = w.drewN m) (fun i _ => n - (intOf i).toNat)
  case atStart => exact ⟨0, Nat.zero_le _, rfl, 0, rfl⟩
  case round =>
    obtain ⟨k, hk, rfl, m, hm⟩ := hrel
    have HM := Lib.hid hm
    by_cases hlt : k < n
    · obtain ⟨g, hA, ca⟩ : ∃ g, A = some ⟨g, 0, none⟩ ∧ ∀ j x, es[j]? = some x → w.cell? ⟨g, j, none⟩ = some (.int .i64 x) := by
        rcases H3.out with ⟨h, _⟩ | h
        · have := H1.out; rw [h] at this; simp at this; omega
        · exact h
      obtain ⟨g', hB, cb⟩ : ∃ g, B = some ⟨g, 0, none⟩ ∧ ∀ j x, es[j]? = some x → w.cell? ⟨g, j, none⟩ = some (.int .i64 x) := by
        rcases H4.out with ⟨h, _⟩ | h
        · have := H1.out; rw [h] at this; simp at this; omega
        · exact h
      subst hA
      subst hB
      have hkl : k < es.length := by have := H1.out; omega
      have ga : wr.cell? ⟨g, k, none⟩ = some (.int .i64 es[k]) := by subst hm; exact ca k _ (List.getElem?_eq_getElem hkl)
      have gb : wr.cell? ⟨g', k, none⟩ = some (.int .i64 es[k]) := by subst hm; exact cb k _ (List.getElem?_eq_getElem hkl)
      generalize es[k] = x at ga gb
      have hlI : (k : Int) < (n : Int) := by omega
      have hkI : (0 : Int) ≤ (k : Int) := by omega
      have hkb : (k : Int) ≤ 1000 := by omega
      clear hm ca cb
      go_wp2
      go_quiet (fail)
      go_wp2
      go_roundw
      case rel => exact ⟨k + 1, by omega, by go_num, by obtain rfl := HM.out; exact ⟨_, by rw [World.drewN_drewN]⟩⟩
      case measure => simp [intOf]; omega
    · clear hm
      go_wp2
      go_ret
      exact ⟨rfl, below_of_drew ⟨m, HM.out⟩ _⟩
end Go.Proofs.YtjgicapjbibioaaDoor
