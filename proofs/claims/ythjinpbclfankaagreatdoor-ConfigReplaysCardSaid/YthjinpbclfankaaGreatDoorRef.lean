/-
  The document's own answers of layer 1 (weirkeepref01), by contracts: wide, one, a fault's Code, Same; alike.
-/
import Derived.Test.YthjinpbclfankaaGreatDoorTwo
import Derived.Deep.RegionHeld3
namespace Go.Proofs.YthjinpbclfankaaGreatDoor
open Go.RowKit Go.Extern.Stop Go.Stop Go.Extern Go.PlainAid Go.Lib

theorem wide_yes (k : Int) (w : World) (h : Width k) :
    Calls Tryz.prog 37 #[.int .i64 k] w fun e w' => e = .returned (.bool true) ∧ w = w' := by
  rcases h with rfl | rfl | rfl | rfl
  all_goals
    go_enter Tryz.func37, Tryz.ntmps37
    go_wp2
    go_ret
    exact ⟨rfl, rfl⟩
theorem wide_no (k : Int) (w : World) (h : ¬ Width k) :
    Calls Tryz.prog 37 #[.int .i64 k] w fun e w' => e = .returned (.bool false) ∧ w = w' := by
  have k1 : (k == 1) = false := by simp only [beq_eq_false_iff_ne]; exact fun e => h (.inl e)
  have k2 : (k == 2) = false := by simp only [beq_eq_false_iff_ne]; exact fun e => h (.inr (.inl e))
  have k4 : (k == 4) = false := by simp only [beq_eq_false_iff_ne]; exact fun e => h (.inr (.inr (.inl e)))
  have k8 : (k == 8) = false := by simp only [beq_eq_false_iff_ne]; exact fun e => h (.inr (.inr (.inr e)))
  clear h
  go_enter Tryz.func37, Tryz.ntmps37
  go_wp2
  go_ret
  exact ⟨rfl, rfl⟩

/-- A fault of the document's: its errors es, in memory. -/
def RF (w : World) (A : Option Addr) (n c : Nat) (es : List Int) : Prop :=
  es.length = n ∧ n ≤ c ∧ (es = [] ∧ A = none ∧ c = 0 ∨ ∃ g, A = some ⟨g, 0, none⟩ ∧ ∀ j x, es[j]? = some x → w.cell? ⟨g, j, none⟩ = some (.int .i64 x))

theorem RF.below {w w' : World} {A : Option Addr} {n c : Nat} {es : List Int} (h : RF w A n c es) (hb : Below w.heap.size w w') : RF w' A n c es := by
  obtain ⟨h1, h2, h3⟩ := h
  refine ⟨h1, h2, ?_⟩
  rcases h3 with h3 | ⟨g, hA, hc⟩
  · exact .inl h3
  · exact .inr ⟨g, hA, fun j x hx => by rw [hb.cell (p := ⟨g, j, none⟩) (cell_lt (hc j x hx))]; exact hc j x hx⟩
theorem RF.none_ {w : World} : RF w none 0 0 [] := ⟨rfl, Nat.le_refl _, .inl ⟨rfl, rfl, rfl⟩⟩

theorem one_any (E at_ : Int) (w : World) :
    Calls Tryz.prog 38 #[.int .i64 E, .int .i64 at_] w fun e w' => ∃ A, e = .returned (.agg #[.slice A 1 1, .int .i64 at_]) ∧ RF w' A 1 1 [E] ∧ (∀ g, A = some ⟨g, 0, none⟩ → w.heap.size ≤ g) ∧ Below w.heap.size w w' := by
  go_enter Tryz.func38, Tryz.ntmps38
  go_wp2
  go_returns
  refine ⟨_, rfl, ⟨rfl, Nat.le_refl _, .inr ⟨_, rfl, fun j x hx => ?_⟩⟩, fun g hg => ?_, by go_grown⟩
  · match j, hx with
    | 0, hx => simp at hx; subst hx; simp
  · injection hg with hg; injection hg with hg; omega
theorem RF.setOther {w : World} {A : Option Addr} {n c : Nat} {es : List Int} (h : RF w A n c es) {p : Addr} (u : Value) (hp : ∀ g, A = some ⟨g, 0, none⟩ → p.block ≠ g) : RF (w.setCell p u) A n c es := by
  obtain ⟨h1, h2, h3⟩ := h
  refine ⟨h1, h2, ?_⟩
  rcases h3 with h3 | ⟨g, hA, hc⟩
  · exact .inl h3
  · refine .inr ⟨g, hA, fun j x hx => ?_⟩
    rw [World.cell?_setCell_other _ _ _ _ (fun e => hp g hA (by rw [e]))]
    exact hc j x hx

/-- A fault's Code. -/
theorem rcode_any (A : Option Addr) (n c : Nat) (es : List Int) (at_ : Int) (w : World) (h : RF w A n c es) (hn : n ≤ 1000) :
    Calls Tryz.prog 25 #[.agg #[.slice A n c, .int .i64 at_]] w fun e w' => e = .returned (.int .i64 (es.headD 0)) ∧ Below w.heap.size w w' := by
  obtain ⟨h1, h2, h3⟩ := h
  cases es with
  | nil =>
    obtain rfl : n = 0 := h1.symm
    clear h3
    go_enter Tryz.func25, Tryz.ntmps25
    go_wp2
    go_ret
    exact ⟨rfl, by go_grown⟩
  | cons x es =>
    rcases h3 with ⟨h, _⟩ | ⟨g, rfl, hc⟩
    · cases h
    · have hx := hc 0 x rfl
      have hgl := cell_lt hx
      have hx1 : ∀ o, (w.alloc o).cell? ⟨g, 0, none⟩ = some (.int .i64 x) := fun o => by rw [World.cell?_alloc_lt _ _ ⟨g, 0, none⟩ hgl]; exact hx
      have hpos : (0 : Int) < (n : Int) := by simp at h1; omega
      have hne : ((n : Int) == 0) = false := by simp only [beq_eq_false_iff_ne]; omega
      clear hc h1
      go_enter Tryz.func25, Tryz.ntmps25
      go_wp2
      go_ret
      exact ⟨rfl, by go_grown⟩
end Go.Proofs.YthjinpbclfankaaGreatDoor
