/-
  isNew, Free, sectors (package shelf), by contracts.
-/
import Derived.Test.YtacdbfaoeioflaaGreatDoorShelf
namespace Go.Proofs.YtacdbfaoeioflaaGreatDoor
open Go.RowKit

section
variable {w : World} {sb mb pb : Nat} {s : St} {L : Lay} {odd : List Nat} {lost : Bool} {F : Nat → Prop}
set_option maxRecDepth 100000 in
set_option maxHeartbeats 2000000 in
theorem isNew_any (h : SF w sb mb pb s L odd lost F) (b : Bk) (hid : i64 b.id) :
    Calls Tryz.prog 43 #[.pointer (some ⟨sb, 0, none⟩), b.val] w fun e w' => e = .returned (.bool (newer L b)) ∧ Below w.heap.size w w' := by
  have hb1 : Below w.heap.size w (w.alloc (.cells b.cells 37)).drew := ((Below.refl _ _).alloc (Nat.le_refl _) _).drew
  have h1 := h.below hb1
  obtain ⟨-, k0, -⟩ := h1.cells
  have k1 := h1.tm.look hid
  have hb2 : Below w.heap.size w ((w.alloc (.cells b.cells 37)).alloc (.cells #[.int .i64 0, .int .i64 0, .string ⟨#[]⟩, .int .i64 0] 86)).drew := (((Below.refl _ _).alloc (Nat.le_refl _) _).alloc (by simp) _).drew
  have h2 := h.below hb2
  have k2 := h2.tm.look hid
  obtain ⟨-, k3, -⟩ := h2.cells
  obtain ⟨-, k4, -⟩ := h.cells
  have hG := h.good
  unfold newer
  clear h h1 h2 hb1 hb2
  cases hg : getL L b.id with
  | none =>
    rw [hg] at k1 k2
    simp only [Option.isSome_none] at k1 k2 ⊢
    generalize placeL L b.id = y at k1 k2
    go_enter Tryz.func43, Tryz.ntmps43
    go_wp2_with fail
    go_region
    all_goals
      go_wp2
      go_ret
      exact ⟨rfl, by go_grown⟩
  | some c =>
    obtain ⟨⟨i, hi⟩, e⟩ := getL_some hg
    have e2 := place_at hG hi
    rw [e] at e2
    rw [hg, e2] at k1 k2
    simp only [Option.isSome_some] at k1 k2 ⊢
    clear e2
    go_enter Tryz.func43, Tryz.ntmps43
    go_wp2_with fail
    go_region
    all_goals
      go_wp2
      go_ret
      exact ⟨rfl, by go_grown⟩

set_option maxRecDepth 100000 in
theorem free_any (h : SF w sb mb pb s L odd lost F) (hl : s.is.length ≤ 128) :
    Calls Tryz.prog 32 #[.pointer (some ⟨sb, 0, none⟩)] w fun e w' => e = .returned (.int .i64 ((s.is.length : Int) - (cnt L : Int))) ∧ Below w.heap.size w w' := by
  have hc := cnt_le L
  have hG := h.good.hi
  have hw : IntKind.i64.wrap ((s.is.length : Int) - (cnt L : Int)) = (s.is.length : Int) - (cnt L : Int) := IntWalk.i64_in _ (by omega)
  obtain ⟨c0, c1, -⟩ := h.cells
  have hb : Below w.heap.size w w.drew := (Below.refl _ _).drew
  have D1 := Lib.hid (h.below hb)
  obtain ⟨c0', c1', -⟩ := D1.out.cells
  have hlen := fun ty => D1.out.tm.len ty
  obtain ⟨Fp, hP, -⟩ := D1.out.pl
  have HS := Lib.hid (size_any pb s Fp _ hP)
  clear hb hc hG hP
  go_enter Tryz.func32, Tryz.ntmps32
  go_wp2_with fail
  go_region_held3 (fun w' => w'.cell? ⟨sb, 0, none⟩ = some (.pointer (some ⟨pb, 0, none⟩)) ∧ w'.cell? ⟨sb, 1, none⟩ = some (.map (some mb)) ∧ ∀ ty, (Builtin.len_ #[77] ty #[.map (some mb)]).run Tryz.prog w' = .ok (.int .i64 (cnt L)) w')
    (first | exact ⟨D1.out.cells.1, D1.out.cells.2.1, D1.out.tm.len⟩ | fail)
    (first
      | (go_at_call 64; with_reducible refine HS.out.mono ?_; rintro e w' ⟨rfl, rfl⟩)
      | fail)
  go_wp2
  go_ret
  exact ⟨rfl, (Below.refl _ _).drew⟩
end
end Go.Proofs.YtacdbfaoeioflaaGreatDoor
