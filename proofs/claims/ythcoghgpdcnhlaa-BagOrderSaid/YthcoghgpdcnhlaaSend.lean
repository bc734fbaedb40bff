/-
  The bag's addIfRoom, Send, Twice (package bag), by contracts.
-/
import Derived.Test.YthcoghgpdcnhlaaPlaces
namespace Go.Proofs.Ythcoghgpdcnhlaa
open Go.RowKit

theorem Mat.fr {w w' : World} {b c : Nat} {row : Option Nat} {m : M} (h : Mat w c m) (hf : Fr b row w w') (h1 : c ≠ b) (h2 : some c ≠ row) : Mat w' c m := by
  have hblk := hf.block c h.lt h1 h2
  exact ⟨fun i hi => (World.cell?_of_block (w := w) (a := ⟨c, i, none⟩) hblk).trans (h.1 i hi), (World.cell?_of_block (w := w) (a := ⟨c, 7, none⟩) hblk).trans h.2⟩
/-- What addIfRoom answers, and leaves. -/
def roomE (l : List M) : Int := if 64 ≤ l.length then 2 else 0
def roomL (l : List M) (m : M) : List M := if 64 ≤ l.length then l else l ++ [m]

set_option maxRecDepth 100000 in
set_option maxHeartbeats 2000000 in
theorem room_any (b : Nat) (row : Option Nat) (l : List M) (m : M) (w : World) (hB : Bg w b row l) (hl : l.length ≤ 900) :
    Calls Try.prog 37 #[.pointer (some ⟨b, 0, none⟩), m.val] w fun e w' => e = .returned (.int .i64 (roomE l)) ∧ ∃ row', Bg w' b row' (roomL l m) ∧ RowOk row row' w ∧ Fr b row w w' := by
  have hbl := hB.lt
  have hb0 : Below w.heap.size w (w.alloc (.cells m.cells 31)) := (Below.refl _ _).alloc (Nat.le_refl _) _
  have HB0 := Lib.hid hb0
  have HBg0 := Lib.hid (hB.below hb0)
  have HM0 := Lib.hid (Mat.fresh w m 31)
  have hrow : ∀ g, row = some g → g < w.heap.size := fun _ hg => (hB.row_lt hg).2
  obtain ⟨s, hs, -⟩ := hB
  clear hb0
  by_cases hfull : 64 ≤ l.length
  · have hfI : (64 : Int) ≤ (l.length : Int) := by omega
    have e1 : roomE l = 2 := if_pos hfull
    have e2 : roomL l m = l := if_pos hfull
    rw [e1, e2]
    go_enter Try.func37, Try.ntmps37
    go_wp2_with fail
    go_at_call 45
    refine (length_any _ _ l _ HBg0.out).mono ?_
    rintro e w1 ⟨rfl, rfl⟩
    go_wp2
    go_ret
    exact ⟨rfl, row, HBg0.out, .inl rfl, Fr.of_below HB0.out⟩
  · have hfI : (l.length : Int) < 64 := by omega
    have e1 : roomE l = 0 := if_neg hfull
    have e2 : roomL l m = l ++ [m] := if_neg hfull
    rw [e1, e2]
    go_enter Try.func37, Try.ntmps37
    go_wp2_with fail
    go_at_call 45
    refine (length_any _ _ l _ HBg0.out).mono ?_
    rintro e w1 ⟨rfl, rfl⟩
    go_wp2_with fail
    generalize w.alloc (.cells m.cells 31) = w0 at HB0 HBg0 HM0 ⊢
    have hbd : Below w0.heap.size w0 w0.drew := (Below.refl _ _).drew
    have HBz := Lib.hid (HB0.out.drew)
    have HBgz := Lib.hid (HBg0.out.below hbd)
    have HMz := Lib.hid (HM0.out.below hbd)
    clear hbd HBg0 HM0 HB0
    go_region_held3 (fun w' => w'.cell? ⟨w.heap.size, 0, none⟩ = some (.int .i64 m.kind) ∧ w'.cell? ⟨w.heap.size, 1, none⟩ = some (.int .i64 m.src) ∧ w'.cell? ⟨w.heap.size, 2, none⟩ = some (.int .i64 m.dst) ∧ w'.cell? ⟨w.heap.size, 3, none⟩ = some (.int .i64 m.epoch) ∧ w'.cell? ⟨w.heap.size, 4, none⟩ = some (.int .i64 m.seq) ∧ w'.cell? ⟨w.heap.size, 5, none⟩ = some (.int .i64 m.off) ∧ w'.cell? ⟨w.heap.size, 6, none⟩ = some (.int .i64 m.len) ∧ w'.cell? ⟨w.heap.size, 7, none⟩ = some (.string m.data))
      (first | exact HMz.out.all | exact HMa.out.all | fail)
      (first
        | (go_at_call 38; refine (add_any _ _ l m _ HBgz.out (by omega)).mono ?_; rintro e wa ⟨rfl, ra, hBa, hra, hfa⟩; have HMa := Lib.hid (HMz.out.fr hfa (by omega) (fun e => by have := hrow _ e.symm; omega)); have HBga := Lib.hid hBa; have HRa := Lib.hid hra; have HFa := Lib.hid hfa; clear hBa hra hfa)
        | fail)
    go_wp2
    go_ret
    refine ⟨rfl, ra, HBga.out, ?_, ?_⟩
    · rcases HRa.out with h | h | ⟨g, h, hg⟩
      · exact .inl h
      · exact .inr (.inl h)
      · exact .inr (.inr ⟨g, h, by have := HBz.out.size; omega⟩)
    · exact (Fr.of_below HBz.out).trans HFa.out (.inl rfl)
end Go.Proofs.Ythcoghgpdcnhlaa
