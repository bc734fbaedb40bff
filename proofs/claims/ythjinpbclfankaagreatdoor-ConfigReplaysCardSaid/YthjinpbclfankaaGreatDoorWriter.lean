/-
  A new writer, and the writer's Bytes, by contracts; what is kept of a writer when other memory turns.
-/
import Derived.Test.YthjinpbclfankaaGreatDoorNum
import Derived.Laws.BytesArg
namespace Go.Proofs.YthjinpbclfankaaGreatDoor
open Go.RowKit Go.Extern.Stop Go.Stop Go.Extern Go.PlainAid

theorem Wrt.below {w w' : World} (hb : Below w.heap.size w w') {b : Nat} {row : Option Nat} {bs : List Int} (h : Wrt w b row bs) : Wrt w' b row bs := by
  obtain ⟨s, hs, hf, ho, hr⟩ := h
  have hl := cell_lt hs
  exact ⟨s, by rw [hb.cell (p := ⟨b, 0, none⟩) hl]; exact hs, by rw [hb.frozen (p := ⟨b, 0, none⟩) hl]; exact hf, ownsRow_below hb ho, hr⟩

theorem Wrt.lt {w : World} {b : Nat} {row : Option Nat} {bs : List Int} (h : Wrt w b row bs) : b < w.heap.size := by
  obtain ⟨s, hs, _⟩ := h; exact cell_lt hs

theorem Wrt.row_lt {w : World} {b g : Nat} {row : Option Nat} {bs : List Int} (h : Wrt w b row bs) (hg : row = some g) : b < g ∧ g < w.heap.size := by
  obtain ⟨s, hs, hf, ho, hr⟩ := h
  have := ho.lt g (hr.trans hg); omega

/-- Below block b nothing has turned, if the row lies behind b. -/
theorem Fr.below {w w' : World} {b : Nat} {row : Option Nat} (h : Fr b row w w') (hb : b ≤ w.heap.size) (hr : ∀ g, row = some g → b < g) : Below b w w' :=
  ⟨h.os, h.tape, h.output, h.size, fun k hk => h.block k (by omega) (by omega) (fun e => by have := hr k e.symm; omega)⟩

theorem newWriter (w : World) :
    Calls Tryz.prog 20 #[] w fun e w' => e = .returned (.pointer (some ⟨w.heap.size, 0, none⟩)) ∧ Wrt w' w.heap.size none [] ∧ Below w.heap.size w w' ∧ w.heap.size < w'.heap.size := by
  go_enter Tryz.func20, Tryz.ntmps20
  go_wp2
  go_ret
  exact ⟨rfl, ⟨.slice none 0 0, by simp, by simp, World.ownsRow_nil _ _ _ _, rfl⟩, by go_grown, by simp⟩

/-- Bytes: all that is written. -/
theorem bytes_any (b : Nat) (row : Option Nat) (bs : List Int) (w : World) (hW : Wrt w b row bs) :
    Calls Tryz.prog 23 #[.pointer (some ⟨b, 0, none⟩)] w fun e w' => e = .returned (.string (strOfNums bs)) ∧ w = w' := by
  obtain ⟨s, hs, hf, ho, hr⟩ := hW
  rcases owned_form ho with ⟨rfl, h0, _⟩ | ⟨g, cap, rfl, hcell⟩
  · have hcv := run_convert_bytes_nil (P := Tryz.prog) w 78 5 Tryz.underlying78 Tryz.underlying5 0 0 9 Tryz.underlying9
    have hbs : bs = [] := by simpa using h0
    subst hbs
    clear ho hr hf h0
    go_enter Tryz.func23, Tryz.ntmps23
    go_wp2
    go_ret
    exact ⟨rfl, rfl⟩
  · have hcv := run_convert_bytes_arg (P := Tryz.prog) w 78 5 Tryz.underlying78 Tryz.underlying5 g 0 bs.length cap bs rfl (fun i hi => by
      rw [Nat.zero_add]
      exact hcell i _ (by rw [List.getElem?_map, List.getElem?_eq_getElem hi]; simp [List.getElem?_eq_getElem hi])) 9 Tryz.underlying9
    clear ho hr hf hcell
    go_enter Tryz.func23, Tryz.ntmps23
    go_wp2
    go_ret
    exact ⟨rfl, rfl⟩
end Go.Proofs.YthjinpbclfankaaGreatDoor
