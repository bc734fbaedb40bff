/-
  refusal and Encode (package wire), by contracts: a message's bytes.
-/
import Derived.Test.YtjgicapjbibioaaDoorTwo
import Derived.Test.YtjgicapjbibioaaDoorOpened
import Derived.Test.YtjgicapjbibioaaDoorChk
import Derived.Deep.RegionHeld3
namespace Go.Proofs.YtjgicapjbibioaaDoor
open Go.RowKit

/-- A number as an error's numbers. -/
def errOf (e : Int) : List Int := if e = 0 then [] else [e]
theorem errOf_ok : errOf 0 = [] := rfl
theorem errOf_bad {e : Int} (h : e ≠ 0) : errOf e = [e] := if_neg h

theorem wrap_ok (at_ : Int) (w : World) :
    Calls Tryd.prog 30 #[.int .i64 0, .int .i64 at_, .nilIface] w fun e w' => e = .returned .nilIface ∧ Below w.heap.size w w' := by
  go_enter Tryd.func30, Tryd.ntmps30
  go_wp2
  go_ret
  exact ⟨rfl, Below.refl _ _⟩

theorem wrap_any (E : Int) (w : World) :
    Calls Tryd.prog 30 #[.int .i64 E, .int .i64 0, .nilIface] w fun e w' => ∃ v, e = .returned v ∧ Chained w' v (errOf E) ∧ Below w.heap.size w w' := by
  by_cases h : E = 0
  · subst h
    refine (wrap_ok 0 w).mono ?_
    rintro e w' ⟨rfl, hb⟩
    exact ⟨_, rfl, rfl, hb⟩
  · rw [errOf_bad h]; exact wrap_new E 0 .nilIface [] w h rfl

/-- refusal: Check's answer as an error. -/
theorem refusal_any (m : M) (w : World) :
    Calls Tryd.prog 16 #[m.val] w fun e w' => ∃ v, e = .returned v ∧ Chained w' v (errOf m.chk) ∧ Below w.heap.size w w' := by
  have HB0 := Lib.hid (show Below w.heap.size w (w.alloc (.cells m.cells 23)) from (Below.refl _ _).alloc (Nat.le_refl _) _)
  go_enter Tryd.func16, Tryd.ntmps16
  go_wp2_with fail
  go_at_call 10
  refine (check_any m _).mono ?_
  rintro e w1 ⟨rfl, hb1⟩
  have HB1 := Lib.hid (HB0.out.trans (hb1.mono HB0.out.size))
  clear HB0 hb1
  go_wp2_with fail
  go_at_call 30
  refine (wrap_any m.chk _).mono ?_
  rintro e w2 ⟨v, rfl, hc, hb2⟩
  have HB2 := Lib.hid (HB1.out.trans (hb2.mono HB1.out.size))
  have HC := Lib.hid hc
  clear hb2 hc
  go_wp2
  go_ret
  exact ⟨v, rfl, HC.out, HB2.out⟩

/-- The bytes of the first i numbers. -/
def M.pre (m : M) : Nat → List Int
  | 0 => []
  | i + 1 => m.pre i ++ leb (m.fld i) (wid i).toNat
/-- All of a message's bytes, ahead of the sum. -/
def M.bytes (m : M) : List Int := m.pre 7 ++ leb (m.data.size : Int) 2 ++ nums m.data
theorem wid_le (i : Nat) : (wid i).toNat ≤ 8 := by
  rcases i with _ | _ | _ | _ | _ | i <;> simp [wid]
theorem M.pre_len (m : M) : ∀ i, (m.pre i).length ≤ 8 * i
  | 0 => by simp [M.pre]
  | i + 1 => by
    have h := m.pre_len i
    have h2 := leb_len (m.fld i) (wid i).toNat (wid_le i)
    have := wid_le i
    simp only [M.pre, List.length_append]
    omega
theorem M.fits (m : M) (i : Nat) (hi : i < 7) (h : m.okN i) : Fits (m.fld i) (wid i) := by
  obtain ⟨h0, h1⟩ := h
  match i, hi, h0, h1 with
  | 0, _, h0, h1 => exact ⟨h0, .inl ⟨rfl, Int.lt_of_le_of_lt h1 (by decide)⟩⟩
  | 1, _, h0, h1 => exact ⟨h0, .inl ⟨rfl, Int.lt_of_le_of_lt h1 (by decide)⟩⟩
  | 2, _, h0, h1 => exact ⟨h0, .inl ⟨rfl, Int.lt_of_le_of_lt h1 (by decide)⟩⟩
  | 3, _, h0, h1 => exact ⟨h0, .inr (.inr (.inr ⟨rfl, Int.le_trans h1 (by decide)⟩))⟩
  | 4, _, h0, h1 => exact ⟨h0, .inr (.inr (.inr ⟨rfl, Int.le_trans h1 (by decide)⟩))⟩
  | 5, _, h0, h1 => exact ⟨h0, .inr (.inl ⟨rfl, Int.lt_of_le_of_lt h1 (by decide)⟩)⟩
  | 6, _, h0, h1 => exact ⟨h0, .inr (.inl ⟨rfl, Int.lt_of_le_of_lt h1 (by decide)⟩)⟩
theorem M.ok_all {m : M} (h : m.chk = 0) : (∀ i, i < 7 → m.okN i) ∧ m.data.size ≤ 1024 := by
  have h7 : ∀ i, i < 7 → m.okN i := fun i hi => Classical.byContradiction fun hc => by
    rw [m.chk_bad i hi hc] at h; exact absurd h (by decide)
  refine ⟨h7, ?_⟩
  rw [m.chk_all h7] at h
  split at h
  · assumption
  · exact absurd h (by decide)

/-- One number of the list, in block z. -/
def One3 (w : World) (z b i : Nat) : Prop := w.cell? ⟨z, 0, none⟩ = some (.pointer (some ⟨b, i, none⟩)) ∧ w.cell? ⟨z, 1, none⟩ = some (.int .i64 (wid i))
theorem One3.fresh (w : World) (b i : Nat) (t : TypeId) : One3 (w.alloc (.cells #[.pointer (some ⟨b, i, none⟩), .int .i64 (wid i), .int .i64 (great i)] t)) w.heap.size b i := ⟨by simp, by simp⟩
theorem One3.lt {w : World} {z b i : Nat} (h : One3 w z b i) : z < w.heap.size := cell_lt3 h.1
theorem One3.belowB {w w' : World} {B : Nat} (hb : Below B w w') {z b i : Nat} (hB : z < B) (h : One3 w z b i) : One3 w' z b i :=
  ⟨by rw [hb.cell (p := ⟨z, 0, none⟩) hB]; exact h.1, by rw [hb.cell (p := ⟨z, 1, none⟩) hB]; exact h.2⟩
theorem One3.below {w w' : World} (hb : Below w.heap.size w w') {z b i : Nat} (h : One3 w z b i) : One3 w' z b i := h.belowB hb h.lt
theorem One3.fr {w w' : World} {z b i c : Nat} {row : Option Nat} (h : One3 w z b i) (hf : Fr c row w w') (h1 : z ≠ c) (h2 : some z ≠ row) : One3 w' z b i := by
  have hblk := hf.block z h.lt h1 h2
  exact ⟨by rw [World.cell?_of_block (w := w) (a := ⟨z, 0, none⟩) hblk]; exact h.1, by rw [World.cell?_of_block (w := w) (a := ⟨z, 1, none⟩) hblk]; exact h.2⟩
theorem Mat.fr {w w' : World} {b c : Nat} {row : Option Nat} {m : M} (h : Mat w b m) (hf : Fr c row w w') (h1 : b ≠ c) (h2 : some b ≠ row) : Mat w' b m := by
  have hblk := hf.block b h.lt h1 h2
  exact ⟨fun i hi => by rw [World.cell?_of_block (w := w) (a := ⟨b, i, none⟩) hblk]; exact h.1 i hi, by rw [World.cell?_of_block (w := w) (a := ⟨b, 7, none⟩) hblk]; exact h.2⟩
theorem Nat3.fr {w w' : World} {n b c : Nat} {row : Option Nat} (h : Nat3 w n b) (hf : Fr c row w w') (h1 : n ≠ c) (h2 : some n ≠ row) : Nat3 w' n b := by
  have hblk := hf.block n h.lt h1 h2
  exact fun i hi => ⟨by rw [World.cell?_of_block (w := w) (a := ⟨n, i * 3, none⟩) hblk]; exact (h i hi).1, by rw [World.cell?_of_block (w := w) (a := ⟨n, i * 3 + 1, none⟩) hblk]; exact (h i hi).2.1, by rw [World.cell?_of_block (w := w) (a := ⟨n, i * 3 + 2, none⟩) hblk]; exact (h i hi).2.2⟩

set_option maxRecDepth 100000 in
set_option maxHeartbeats 2000000 in
theorem encode_bad (m : M) (w : World) (h : m.chk ≠ 0) :
    Calls Tryd.prog 7 #[m.val] w fun e w' => ∃ v, e = .returned (.tuple #[.string ⟨#[]⟩, v]) ∧ Chained w' v [m.chk] ∧ Below w.heap.size w w' := by
  have HB0 := Lib.hid (show Below w.heap.size w (w.alloc (.cells m.cells 23)) from (Below.refl _ _).alloc (Nat.le_refl _) _)
  go_enter Tryd.func7, Tryd.ntmps7
  go_wp2_with fail
  go_at_call 16
  refine (refusal_any m _).mono ?_
  rintro e w1 ⟨v, rfl, hc, hb1⟩
  rw [errOf_bad h] at hc
  have HB1 := Lib.hid (HB0.out.trans (hb1.mono HB0.out.size))
  have HC := Lib.hid hc
  obtain ⟨b, o, u, rfl, _⟩ := hc
  clear HB0 hb1
  go_wp2
  go_ret2
  exact ⟨_, rfl, HC.out, HB1.out⟩

set_option maxRecDepth 100000 in
set_option maxHeartbeats 4000000 in
theorem encode_ok (m : M) (w : World) (hT : Tab w) (h : m.chk = 0) :
    Calls Tryd.prog 7 #[m.val] w fun e w' => e = .returned (.tuple #[.string (strOfNums m.bytes ++ four (sumOf (strOfNums m.bytes))), .nilIface]) ∧ Below w.heap.size w w' := by
  obtain ⟨hok, hds⟩ := M.ok_all h
  have HOK := Lib.hid hok
  have HT := Lib.hid hT
  have hb0 : Below w.heap.size w (w.alloc (.cells m.cells 23)) := (Below.refl _ _).alloc (Nat.le_refl _) _
  have HB0 := Lib.hid hb0
  have HM0 := Lib.hid (Mat.fresh w m 23)
  have hrf := fun W => refusal_any m W
  simp only [h, errOf_ok] at hrf
  have HRF := Lib.hid hrf
  clear hok hT hb0 hrf h
  go_enter Tryd.func7, Tryd.ntmps7
  go_wp2_with fail
  go_at_call 16
  refine (HRF.out _).mono ?_
  rintro e w1 ⟨v, rfl, hc, hb1⟩
  obtain rfl : v = .nilIface := hc
  have HM1 := Lib.hid (HM0.out.below hb1)
  have HB1 := Lib.hid (HB0.out.trans (hb1.mono HB0.out.size))
  clear HB0 HM0 HRF hb1
  go_wp2_with fail
  go_at_call 17
  refine (newWriter w1).mono ?_
  rintro e w2 ⟨rfl, hW2, hb2, hz2⟩
  have HM2 := Lib.hid (HM1.out.below hb2)
  have HB2 := Lib.hid (HB1.out.trans (hb2.mono HB1.out.size))
  have HW2 := Lib.hid hW2
  have hz1 := HM1.out.lt
  clear HM1 HB1 hW2 hb2
  generalize w1.heap.size = p at *
  go_wp2_with fail
  go_at_call 18
  refine (numbers_at _ w2).mono ?_
  rintro e w3 ⟨rfl, hn3, hb3⟩
  have HM3 := Lib.hid (HM2.out.below hb3)
  have HW3 := Lib.hid (HW2.out.below hb3)
  have HB3 := Lib.hid (HB2.out.trans (hb3.mono HB2.out.size))
  have HN3 := Lib.hid hn3
  clear HM2 HB2 HW2 hb3 hn3
  generalize w2.heap.size = n at *
  have hz3 := HN3.out.lt
  go_wp2
  go_loopw [16] (fun iv wr => ∃ i : Nat, i ≤ 7 ∧ iv = .int .i64 i ∧ Mat wr w.heap.size m ∧ Nat3 wr n w.heap.size ∧ (∃ row, Wrt wr p row (m.pre i) ∧ ∀ g, row = some g → n < g) ∧ Below w.heap.size w wr) (fun iv _ => 7 - (intOf iv).toNat)
  case atStart => exact ⟨0, by omega, rfl, HM3.out, HN3.out, ⟨none, HW3.out, fun g hg => by cases hg⟩, HB3.out⟩
  case round =>
    obtain ⟨i, hi, rfl, hM, hN, ⟨row, hW, hrow⟩, hb⟩ := hrel
    clear HM3 HN3 HW3 HB3
    have hnr := hN.lt
    have hpr := hW.lt
    by_cases hlt : i < 7
    · obtain ⟨c0, c1, c2⟩ := hN i hlt
      have f0 := hM.1 i hlt
      have hiI : (i : Int) < 7 := by omega
      have hi0 : (0 : Int) ≤ (i : Int) := by omega
      have HFIT := Lib.hid (m.fits i hlt (HOK.out i hlt))
      have HPL := Lib.hid (m.pre_len i)
      have hbw : w.heap.size < wr.heap.size := by omega
      have hal : Below wr.heap.size wr ((wr.alloc (.cells #[.pointer (some ⟨w.heap.size, i, none⟩), .int .i64 (wid i), .int .i64 (great i)] 54)).drew) := ((Below.refl _ _).alloc (Nat.le_refl _) _).drew
      have HM := Lib.hid (hM.below hal)
      have HN := Lib.hid (hN.below hal)
      have HW := Lib.hid (hW.below hal)
      have HB := Lib.hid (hb.trans (hal.mono hb.size))
      have HRL := Lib.hid (fun g hg => (hW.row_lt (g := g) hg).2)
      have HROW := Lib.hid hrow
      have HO := Lib.hid (One3.below ((Below.refl _ _).drew) (One3.fresh wr w.heap.size i 54))
      clear hM hN hW hb hrow hal
      go_wp2_with fail
      have hdz : ((wr.alloc (.cells #[.pointer (some ⟨w.heap.size, i, none⟩), .int .i64 (wid i), .int .i64 (great i)] 54)).drew) = (wr.alloc (.cells #[.pointer (some ⟨w.heap.size, i, none⟩), .int .i64 (wid i), .int .i64 (great i)] 54)).drew := rfl
      generalize wr.alloc (.cells #[.pointer (some ⟨w.heap.size, i, none⟩), .int .i64 (wid i), .int .i64 (great i)] 54) = wx at HM HN HW HB HO ⊢
      clear hdz
      have hzz := HO.out.lt
      generalize wr.heap.size = z at *
      go_region_held3 (fun w' => w'.cell? ⟨z, 0, none⟩ = some (.pointer (some ⟨w.heap.size, i, none⟩)) ∧ w'.cell? ⟨z, 1, none⟩ = some (.int .i64 (wid i)) ∧ w'.cell? ⟨w.heap.size, i, none⟩ = some (.int .i64 (m.fld i)))
        (first | exact ⟨HO.out.1, HO.out.2, HM.out.1 i hlt⟩ | exact ⟨HOa.out.1, HOa.out.2, HMa.out.1 i hlt⟩ | fail)
        (first
          | (go_at_call 19; refine (num_ok p row (m.pre i) (m.fld i) (wid i) _ HFIT.out HW.out (by have := HPL.out; omega)).mono ?_; rintro e wa ⟨rfl, row', hWa, hRa, hFa⟩; have HWa := Lib.hid hWa; have HRa := Lib.hid hRa; have HFa := Lib.hid hFa; (have HOa := Lib.hid (HO.out.fr hFa (by omega) (fun e => by have := HRL.out z e.symm; omega))); (have HMa := Lib.hid (HM.out.fr hFa (by omega) (fun e => by have := HROW.out _ e.symm; omega))); (have HNa := Lib.hid (HN.out.fr hFa (by omega) (fun e => by have := HROW.out _ e.symm; omega))); clear hWa hRa hFa)
          | fail)
      go_wp2
      go_roundw
      case rel =>
        refine ⟨i + 1, by omega, by go_num, HMa.out, HNa.out, ⟨row', HWa.out, fun g hg => ?_⟩, ?_⟩
        · rcases HRa.out with h | ⟨g', h, hge⟩
          · exact HROW.out g (h ▸ hg)
          · rw [h] at hg; injection hg with hg; have := HN.out.lt; omega
        · exact HB.out.trans ((HFa.out.below (by have := HW.out.lt; omega) (fun g hg => by have := HROW.out g hg; omega)).mono (by omega))
      case measure => simp [intOf]; omega
    · obtain rfl : i = 7 := by omega
      have hiI : ¬ ((7 : Nat) : Int) < 7 := by omega
      have f7 := hM.2
      have HPL := Lib.hid (m.pre_len 7)
      have HX := Lib.hid (text_ok p row (m.pre 7) m.data wr hds hW (by have := HPL.out; omega))
      have HB := Lib.hid hb
      have HROW := Lib.hid hrow
      have hTr := HT.out.below (HB.out)
      clear hM hN hW hb hrow
      go_wp2_with fail
      go_at_call 20
      refine HX.out.mono ?_
      rintro e wa ⟨rfl, row', hWa, hRa, hFa⟩
      have HWa := Lib.hid hWa
      have HBa := Lib.hid (HB.out.trans ((hFa.below (by omega) (fun g hg => by have := HROW.out g hg; omega)).mono (by omega)))
      have HTa := Lib.hid (HT.out.below HBa.out)
      clear hWa hRa hFa hTr
      go_wp2_with fail
      go_at_call 22
      refine (bytes_any p row' _ _ HWa.out).mono ?_
      rintro e wb ⟨rfl, rfl⟩
      have HSZ := Lib.hid (show (strOfNums (m.pre 7 ++ leb (m.data.size : Int) 2 ++ nums m.data)).size ≤ 1000000000000 by
        rw [strOfNums_size, List.length_append, List.length_append, nums_length, leb_len _ _ (by omega)]; have := HPL.out; omega)
      go_wp2_with fail
      go_at_call 21
      refine (seal_any _ _ HTa.out HSZ.out).mono ?_
      rintro e wc ⟨rfl, hbc⟩
      have HBc := Lib.hid (HBa.out.trans (hbc.mono HBa.out.size))
      clear hbc
      go_wp2
      go_ret2
      exact ⟨rfl, HBc.out⟩
end Go.Proofs.YtjgicapjbibioaaDoor
