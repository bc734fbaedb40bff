/-
  Encode (package config), by a contract: an order's bytes, or its error.
-/
import Derived.Test.YthjinpbclfankaaGreatDoorTwo
import Derived.Test.YthjinpbclfankaaGreatDoorOrd
import Derived.Deep.RegionHeld3
namespace Go.Proofs.YthjinpbclfankaaGreatDoor
open Go.RowKit

/-- The order o lies in block b. -/
def OB (T : TypeId) (w : World) (b : Nat) (o : Od) : Prop := w.heap[b]? = some (.cells o.cells T (0, 0))
theorem OB.lt' {T : TypeId} {w : World} {b : Nat} {o : Od} (h : OB T w b o) : b < w.heap.size := (Array.getElem?_eq_some_iff.1 h).1
theorem OB.at_ {T : TypeId} {w : World} {b : Nat} {o : Od} (h : OB T w b o) {i : Nat} (hi : i < 5) : w.cell? ⟨b, i, none⟩ = some (.int .i64 (o.fld i)) := by
  rcases (show i = 0 ∨ i = 1 ∨ i = 2 ∨ i = 3 ∨ i = 4 by omega) with rfl | rfl | rfl | rfl | rfl
  · exact cell_of_row _ _ 0 _ _ _ h
  · exact cell_of_row _ _ 1 _ _ _ h
  · exact cell_of_row _ _ 2 _ _ _ h
  · exact cell_of_row _ _ 3 _ _ _ h
  · exact cell_of_row _ _ 4 _ _ _ h
theorem OB.below {T : TypeId} {w w' : World} {b : Nat} {o : Od} (h : OB T w b o) (hb : Below w.heap.size w w') : OB T w' b o := (hb.block _ h.lt').trans h
theorem OB.fr {T : TypeId} {w w' : World} {b c : Nat} {o : Od} {row : Option Nat} (h : OB T w b o) (hf : Fr c row w w') (h1 : b ≠ c) (h2 : some b ≠ row) : OB T w' b o := (hf.block _ h.lt' h1 h2).trans h
/-- One number of the list, in block z. -/
def One5 (w : World) (z b i : Nat) : Prop := w.cell? ⟨z, 0, none⟩ = some (.pointer (some ⟨b, i, none⟩)) ∧ w.cell? ⟨z, 1, none⟩ = some (.int .i64 (wid5 i))
theorem One5.fresh (w : World) (b i : Nat) (t : TypeId) : One5 (w.alloc (.cells #[.pointer (some ⟨b, i, none⟩), .int .i64 (wid5 i)] t)) w.heap.size b i := ⟨by simp, by simp⟩
theorem One5.lt {w : World} {z b i : Nat} (h : One5 w z b i) : z < w.heap.size := cell_lt h.1
theorem One5.below {w w' : World} (hb : Below w.heap.size w w') {z b i : Nat} (h : One5 w z b i) : One5 w' z b i :=
  ⟨by rw [hb.cell (p := ⟨z, 0, none⟩) h.lt]; exact h.1, by rw [hb.cell (p := ⟨z, 1, none⟩) h.lt]; exact h.2⟩
theorem One5.fr {w w' : World} {z b i c : Nat} {row : Option Nat} (h : One5 w z b i) (hf : Fr c row w w') (h1 : z ≠ c) (h2 : some z ≠ row) : One5 w' z b i := by
  have hblk := hf.block z h.lt h1 h2
  exact ⟨by rw [World.cell?_of_block (w := w) (a := ⟨z, 0, none⟩) hblk]; exact h.1, by rw [World.cell?_of_block (w := w) (a := ⟨z, 1, none⟩) hblk]; exact h.2⟩
set_option maxRecDepth 100000 in
set_option maxHeartbeats 4000000 in
theorem enc_any (o : Od) (w : World) (hg : ErrType w) (hm : ∀ i, i < 5 → o.fld i ≤ 9223372036854775807) :
    Calls Tryz.prog 7 #[o.val] w fun e w' => e = .returned (.tuple #[.string (encO o).1, .int .i64 (encO o).2]) ∧ Below w.heap.size w w' := by
  have hb0 : Below w.heap.size w (w.alloc (.cells o.cells 26)) := (Below.refl _ _).alloc (Nat.le_refl _) _
  have hO0 : OB 26 (w.alloc (.cells o.cells 26)) w.heap.size o := heap_alloc_new _ _
  have HG := Lib.hid hg
  have HM := Lib.hid hm
  have HB0 := Lib.hid hb0
  have HO0 := Lib.hid hO0
  clear hg hm hb0 hO0
  go_enter Tryz.func7, Tryz.ntmps7
  go_wp2_with fail
  generalize w.alloc (.cells #[.int .i64 o.k, .int .i64 o.n, .int .i64 o.m, .int .i64 o.f, .int .i64 o.t] 26) = w1 at HB0 HO0 ⊢
  go_at_call 20
  refine (newWriter w1).mono ?_
  rintro e w2 ⟨rfl, hW2, hb2, hz2⟩
  have hz1 := HO0.out.lt'
  have HO2 := Lib.hid (HO0.out.below hb2)
  have HB2 := Lib.hid (HB0.out.trans (hb2.mono HB0.out.size))
  have HW2 := Lib.hid hW2
  clear HO0 HB0 hW2 hb2
  generalize w1.heap.size = p at *
  go_wp2_with fail
  go_at_call 16
  refine (numbers5 _ w2).mono ?_
  rintro e w3 ⟨rfl, hb3⟩
  have HO3 := Lib.hid (HO2.out.below hb3)
  have HW3 := Lib.hid (HW2.out.below hb3)
  have HB3 := Lib.hid (HB2.out.trans (hb3.mono HB2.out.size))
  clear HO2 HB2 HW2 hb3 hz2
  go_wp2_with fail
  go_loopw [10] (fun iv wr => ∃ i : Nat, i ≤ 5 ∧ iv = .int .i64 i ∧ OB 26 wr w.heap.size o ∧ (∃ row, Wrt wr p row (o.pre i)) ∧ Below w.heap.size w wr ∧ (∀ j, j < i → Fits (o.fld j) (wid5 j))) (fun iv _ => 5 - (intOf iv).toNat)
  case atStart => exact ⟨0, by omega, rfl, HO3.out, ⟨none, HW3.out⟩, HB3.out, fun j hj => by omega⟩
  case round =>
    obtain ⟨i, hi, rfl, hO, ⟨row, hW⟩, hb, hF⟩ := hrel
    clear HO3 HW3 HB3
    have hpr := hW.lt
    have HFS := Lib.hid hF
    clear hF
    by_cases hlt : i < 5
    · have hix := fun W => arr5_at w.heap.size hlt W
      have hiI : (i : Int) < 5 := by omega
      have hi0 : (0 : Int) ≤ (i : Int) := by omega
      have HPL := Lib.hid (o.pre_len i)
      have hoff : offs i ≤ 9 := by rcases i with _ | i <;> simp [offs]; omega
      have HMI := Lib.hid (HM.out i hlt)
      have hal : Below wr.heap.size wr ((wr.alloc (.cells #[.pointer (some ⟨w.heap.size, i, none⟩), .int .i64 (wid5 i)] 55)).drew) := ((Below.refl _ _).alloc (Nat.le_refl _) _).drew
      have HO := Lib.hid (hO.below hal)
      have HW := Lib.hid (hW.below hal)
      have HB := Lib.hid (hb.trans (hal.mono hb.size))
      have HRL := Lib.hid (fun g hg => hW.row_lt (g := g) hg)
      have HN := Lib.hid (One5.below ((Below.refl _ _).drew) (One5.fresh wr w.heap.size i 55))
      clear hO hW hb hal
      go_wp2_with fail
      clear hix
      generalize wr.alloc (.cells #[.pointer (some ⟨w.heap.size, i, none⟩), .int .i64 (wid5 i)] 55) = wx at HO HW HB HN ⊢
      have hzz := HN.out.lt
      generalize wr.heap.size = z at *
      by_cases hfit : Fits (o.fld i) (wid5 i)
      · have HFIT := Lib.hid hfit
        clear hfit
        go_region_held3 (fun w' => w'.cell? ⟨z, 0, none⟩ = some (.pointer (some ⟨w.heap.size, i, none⟩)) ∧ w'.cell? ⟨z, 1, none⟩ = some (.int .i64 (wid5 i)) ∧ w'.cell? ⟨w.heap.size, i, none⟩ = some (.int .i64 (o.fld i)))
          (first | exact ⟨HN.out.1, HN.out.2, HO.out.at_ hlt⟩ | exact ⟨HNa.out.1, HNa.out.2, HOa.out.at_ hlt⟩ | fail)
          (first
            | (go_at_call 21; refine (num_ok p row (o.pre i) (o.fld i) (wid5 i) _ HFIT.out HW.out (by have := HPL.out; omega)).mono ?_; rintro e wa ⟨rfl, row', hWa, hRa, hFa⟩; have HWa := Lib.hid hWa; have HRa := Lib.hid hRa; have HFa := Lib.hid hFa; (have HNa := Lib.hid (HN.out.fr hFa (by omega) (fun e => by have := HRL.out z e.symm; omega))); (have HOa := Lib.hid (HO.out.fr hFa (by omega) (fun e => by have := HRL.out _ e.symm; omega))); clear hWa hRa hFa)
            | fail)
        go_wp2
        go_roundw
        case rel =>
          refine ⟨i + 1, by omega, by go_num, HOa.out, ⟨row', HWa.out⟩, ?_, fun j hj => ?_⟩
          · exact HB.out.trans ((HFa.out.below (by have := HW.out.lt; omega) (fun g hg => (HRL.out g hg).1)).mono (by omega))
          · rcases Nat.lt_succ_iff_lt_or_eq.1 hj with h | rfl
            · exact HFS.out j h
            · exact HFIT.out
        case measure => simp [intOf]; omega
      · have HFIT := Lib.hid hfit
        have HENC := Lib.hid (encO_no (o := o) (fun h => hfit (h i hlt)))
        clear hfit
        go_region_held3 (fun w' => w'.cell? ⟨z, 0, none⟩ = some (.pointer (some ⟨w.heap.size, i, none⟩)) ∧ w'.cell? ⟨z, 1, none⟩ = some (.int .i64 (wid5 i)) ∧ w'.cell? ⟨w.heap.size, i, none⟩ = some (.int .i64 (o.fld i)))
          (first | exact ⟨HN.out.1, HN.out.2, HO.out.at_ hlt⟩ | exact ⟨HNa.out.1, HNa.out.2, HOa.out.at_ hlt⟩ | fail)
          (first
            | (go_at_call 21; refine (num_bad p row (o.pre i) (o.fld i) (wid5 i) _ HFIT.out HMI.out HW.out).mono ?_; rintro e wa ⟨v, rfl, hc, hba⟩; have HC := Lib.hid hc; have HBa := Lib.hid (HB.out.trans (hba.mono HB.out.size)); have HNa := Lib.hid (HN.out.below hba); have HOa := Lib.hid (HO.out.below hba); obtain ⟨b1, o1, u1, rfl, -⟩ := hc; clear hba)
            | fail)
        have HGa := Lib.hid (HG.out.below HBa.out)
        go_wp2_with fail
        go_at_call 22
        refine (code_any _ [1] _ HGa.out HC.out (by decide)).mono ?_
        rintro e wb ⟨rfl, hbb⟩
        have HBb := Lib.hid (HBa.out.trans (hbb.mono HBa.out.size))
        clear hbb
        go_wp2_with fail
        go_ret2
        rw [HENC.out]
        exact ⟨rfl, HBb.out⟩
    · obtain rfl : i = 5 := by omega
      have hiI : ¬ ((5 : Nat) : Int) < 5 := by omega
      have HW := Lib.hid hW
      have HB := Lib.hid hb
      have HENC := Lib.hid (encO_yes (o := o) HFS.out)
      clear hO hW hb
      go_wp2_with fail
      go_at_call 23
      refine (bytes_any p row _ _ HW.out).mono ?_
      rintro e wb ⟨rfl, rfl⟩
      go_wp2
      go_ret2
      rw [HENC.out]
      exact ⟨rfl, HB.out⟩
end Go.Proofs.YthjinpbclfankaaGreatDoor
