/-
  The closures of Decode's list (package wire), by contracts.
-/
import Derived.Test.YtjgicapjbibioaaDoorDec1
namespace Go.Proofs.YtjgicapjbibioaaDoor
open Go.RowKit Go.Lib Go.PlainAid

theorem Fr.ofDrew {b : Nat} {row : Option Nat} {w w' : World} (h : Fr b row w.drew w') : Fr b row w w' := ⟨h.os, h.tape, h.output, h.size, h.block⟩
theorem set_far {w : World} {b i B o : Nat} {x v : Value} (hne : b ≠ B) (h : w.cell? ⟨B, o, none⟩ = some v) : (w.setCell ⟨b, i, none⟩ x).cell? ⟨B, o, none⟩ = some v := by
  rw [World.cell?_setCell_other _ _ _ _ (by intro e; injection e with e; exact hne e)]; exact h

set_option maxRecDepth 100000 in
set_option maxHeartbeats 2000000 in
theorem clo1 (b R Z B i : Nat) (m : M) (t : ByteArray) (w : World) (hi : i < 7) (hB : w.cell? ⟨B, 0, none⟩ = some (.pointer (some ⟨R, 0, none⟩))) (hO : One3 w Z b i) (hM : MB w b m) (hR : Rdr w R t (pos i)) (ha : pos i ≤ t.size) (hs : t.size ≤ 1000000000)
    (d1 : b ≠ R) (d2 : b ≠ Z) (d3 : b ≠ B) (d4 : R ≠ Z) (d5 : R ≠ B) :
    Calls Tryd.prog 52 #[.pointer (some ⟨B, 0, none⟩), .pointer (some ⟨Z, 0, none⟩)] w fun e w' => ∃ v, e = .returned v ∧ Chained w' v (numE t i) ∧ (numE t i = [] → MB w' b (m.set i (numV t i)) ∧ Rdr w' R t (pos (i + 1))) ∧ Fr b (some R) w w' := by
  have hbd : Below w.heap.size w w.drew := (Below.refl _ _).drew
  have HN := Lib.hid (rnum_i R i t w.drew hi (hR.below hbd) ha hs)
  have HM := Lib.hid (hM.below hbd)
  have HI := Lib.hid hi
  obtain ⟨o0, o1⟩ := hO
  have lB := cell_lt hB
  have lZ := cell_lt o0
  have lb := hM.lt
  clear hM hR ha hs hi hbd
  go_enter Tryd.func52, Tryd.ntmps52
  go_wp2
  go_region_held3 (fun w' => w'.cell? ⟨B, 0, none⟩ = some (.pointer (some ⟨R, 0, none⟩)) ∧ w'.cell? ⟨Z, 0, none⟩ = some (.pointer (some ⟨b, i, none⟩)) ∧ w'.cell? ⟨Z, 1, none⟩ = some (.int .i64 (wid i)))
    (first | exact ⟨hB, o0, o1⟩ | exact ⟨k0, k1, k2⟩ | exact ⟨set_far d3 k0, set_far d2 k1, set_far d2 k2⟩ | fail)
    (first
      | (go_at_call 53; refine HN.out.mono ?_; rintro e wa ⟨n, v, rfl, hc, hg, hf⟩; have HC := Lib.hid hc; have HG := Lib.hid hg; have HF := Lib.hid hf; (have HMa := Lib.hid (HM.out.fr hf d1 (by simp))); (have k0 : wa.cell? ⟨B, 0, none⟩ = some (.pointer (some ⟨R, 0, none⟩)) := by rw [World.cell?_of_block (w := w.drew) (a := ⟨B, 0, none⟩) (hf.block B lB (Ne.symm d5) (by simp))]; exact hB); (have k1 : wa.cell? ⟨Z, 0, none⟩ = some (.pointer (some ⟨b, i, none⟩)) := by rw [World.cell?_of_block (w := w.drew) (a := ⟨Z, 0, none⟩) (hf.block Z lZ (Ne.symm d4) (by simp))]; exact o0); (have k2 : wa.cell? ⟨Z, 1, none⟩ = some (.int .i64 (wid i)) := by rw [World.cell?_of_block (w := w.drew) (a := ⟨Z, 1, none⟩) (hf.block Z lZ (Ne.symm d4) (by simp))]; exact o1); (have q0 : wa.cell? ⟨b, i, none⟩ = some (.int .i64 (m.fld i)) := HMa.out.mat.1 i HI.out); (have q1 : wa.frozen? ⟨b, i, none⟩ = false := HMa.out.free i); clear hc hg hf)
      | fail)
  go_wp2
  go_ret
  refine ⟨v, rfl, HC.out.setMsg HMa.out i _, fun h => ?_, HF.out.setMsg.ofDrew⟩
  obtain ⟨rfl, hr⟩ := HG.out h
  exact ⟨HMa.out.set i HI.out _, hr.setMsg d1⟩
/-- The cells of a message, one by one. -/
theorem Mat.all {w : World} {b : Nat} {m : M} (h : Mat w b m) : w.cell? ⟨b, 0, none⟩ = some (.int .i64 m.kind) ∧ w.cell? ⟨b, 1, none⟩ = some (.int .i64 m.src) ∧ w.cell? ⟨b, 2, none⟩ = some (.int .i64 m.dst) ∧ w.cell? ⟨b, 3, none⟩ = some (.int .i64 m.epoch) ∧ w.cell? ⟨b, 4, none⟩ = some (.int .i64 m.seq) ∧ w.cell? ⟨b, 5, none⟩ = some (.int .i64 m.off) ∧ w.cell? ⟨b, 6, none⟩ = some (.int .i64 m.len) ∧ w.cell? ⟨b, 7, none⟩ = some (.string m.data) :=
  ⟨h.1 0 (by omega), h.1 1 (by omega), h.1 2 (by omega), h.1 3 (by omega), h.1 4 (by omega), h.1 5 (by omega), h.1 6 (by omega), h.2⟩
/-- The reader's Text behind the numbers. -/
theorem rtext_t (R : Nat) (t : ByteArray) (w : World) (hg : ErrType w) (hR : Rdr w R t 23) (ha : 23 ≤ t.size) (hs : t.size ≤ 1000000000) :
    Calls Tryd.prog 55 #[.pointer (some ⟨R, 0, none⟩)] w fun e w' => ∃ d v, e = .returned (.tuple #[.string d, v]) ∧ Chained w' v (textE t) ∧ (textE t = [] → d = textV t ∧ Rdr w' R t (25 + (tL t).toNat)) ∧ Fr R none w w' := by
  have hn := lev_nonneg (t.extract 23 t.size) 2
  have hn' : 0 ≤ tL t := hn
  unfold textE
  by_cases h1 : t.size < 25
  · rw [if_pos h1]
    refine (rtext_few R 23 t w hg hR ha hs (by omega)).mono ?_
    rintro e w' ⟨v, rfl, hc, hb⟩
    exact ⟨_, v, rfl, hc, fun h => (by cases h), Fr.ofBelow hb⟩
  · rw [if_neg h1]
    by_cases h2 : 1024 < tL t
    · rw [if_pos h2]
      refine (rtext_long R 23 t w hR ha hs (by omega) h2).mono ?_
      rintro e w' ⟨v, rfl, hc, hb⟩
      exact ⟨_, v, rfl, hc, fun h => (by cases h), Fr.ofBelow hb⟩
    · rw [if_neg h2]
      by_cases h3 : (t.size : Int) < 25 + tL t
      · rw [if_pos h3]
        refine (rtext_short R 23 t w hR ha hs (by omega) (by show tL t ≤ 1024; omega) (by show _ < tL t; omega)).mono ?_
        rintro e w' ⟨v, rfl, hc, hb⟩
        exact ⟨_, v, rfl, hc, fun h => (by cases h), Fr.ofBelow hb⟩
      · rw [if_neg h3]
        refine (rtext_ok R 23 (tL t).toNat t w hR ha hs (by omega) (by show tL t = _; omega) (by omega) (by omega)).mono ?_
        rintro e w' ⟨rfl, hr, hf⟩
        exact ⟨_, _, rfl, rfl, fun _ => ⟨rfl, hr⟩, hf⟩
theorem textE_ok {t : ByteArray} (h : textE t = []) : 25 ≤ t.size ∧ tL t ≤ 1024 ∧ 25 + tL t ≤ (t.size : Int) ∧ 0 ≤ tL t := by
  have hn' : 0 ≤ tL t := lev_nonneg (t.extract 23 t.size) 2
  unfold textE at h
  split at h
  · cases h
  · split at h
    · cases h
    · split at h
      · cases h
      · exact ⟨by omega, by omega, by omega, hn'⟩
/-- The reader's End behind the text. -/
theorem rend_t (R : Nat) (t : ByteArray) (w : World) (hR : Rdr w R t (25 + (tL t).toNat)) (ht : textE t = []) (hs : t.size ≤ 1000000000) :
    Calls Tryd.prog 56 #[.pointer (some ⟨R, 0, none⟩)] w fun e w' => ∃ v, e = .returned v ∧ Chained w' v (endE t) ∧ Below w.heap.size w w' := by
  obtain ⟨h1, h2, h3, h4⟩ := textE_ok ht
  unfold endE
  by_cases h : (t.size : Int) = 25 + tL t
  · rw [if_pos h]
    have e : 25 + (tL t).toNat = t.size := by omega
    rw [e] at hR
    refine (end_ok R t w hR hs).mono ?_
    rintro e w' ⟨rfl, hb⟩
    exact ⟨_, rfl, rfl, hb⟩
  · rw [if_neg h]
    exact end_bad R _ t w hR (by omega) hs

set_option maxRecDepth 100000 in
set_option maxHeartbeats 2000000 in
theorem clo2 (b R A B : Nat) (m : M) (t : ByteArray) (w : World) (hg : ErrType w) (hB : w.cell? ⟨B, 0, none⟩ = some (.pointer (some ⟨R, 0, none⟩))) (hA : w.cell? ⟨A, 0, none⟩ = some (.pointer (some ⟨b, 0, none⟩))) (hM : MB w b m) (hR : Rdr w R t 23) (ha : 23 ≤ t.size) (hs : t.size ≤ 1000000000)
    (d1 : b ≠ R) (d2 : b ≠ A) (d3 : b ≠ B) (d4 : R ≠ A) (d5 : R ≠ B) :
    Calls Tryd.prog 54 #[.pointer (some ⟨B, 0, none⟩), .pointer (some ⟨A, 0, none⟩)] w fun e w' => ∃ v, e = .returned v ∧ Chained w' v (textE t) ∧ (textE t = [] → MB w' b { m with data := textV t } ∧ Rdr w' R t (25 + (tL t).toNat)) ∧ Fr b (some R) w w' := by
  have hbd : Below w.heap.size w w.drew := (Below.refl _ _).drew
  have HN := Lib.hid (rtext_t R t w.drew (hg.below hbd) (hR.below hbd) ha hs)
  have HM := Lib.hid (hM.below hbd)
  have lB := cell_lt hB
  have lA := cell_lt hA
  have lb := hM.lt
  clear hM hR ha hs hbd hg
  go_enter Tryd.func54, Tryd.ntmps54
  go_wp2
  go_region_held3 (fun w' => w'.cell? ⟨B, 0, none⟩ = some (.pointer (some ⟨R, 0, none⟩)) ∧ w'.cell? ⟨A, 0, none⟩ = some (.pointer (some ⟨b, 0, none⟩)))
    (first | exact ⟨hB, hA⟩ | exact ⟨k0, k1⟩ | exact ⟨set_far d3 k0, set_far d2 k1⟩ | fail)
    (first
      | (go_at_call 55; refine HN.out.mono ?_; rintro e wa ⟨d, v, rfl, hc, hg, hf⟩; have HC := Lib.hid hc; have HG := Lib.hid hg; have HF := Lib.hid hf; (have HMa := Lib.hid (HM.out.fr hf d1 (by simp))); (have k0 : wa.cell? ⟨B, 0, none⟩ = some (.pointer (some ⟨R, 0, none⟩)) := by rw [World.cell?_of_block (w := w.drew) (a := ⟨B, 0, none⟩) (hf.block B lB (Ne.symm d5) (by simp))]; exact hB); (have k1 : wa.cell? ⟨A, 0, none⟩ = some (.pointer (some ⟨b, 0, none⟩)) := by rw [World.cell?_of_block (w := w.drew) (a := ⟨A, 0, none⟩) (hf.block A lA (Ne.symm d4) (by simp))]; exact hA); (have q0 : wa.cell? ⟨b, 7, none⟩ = some (.string m.data) := HMa.out.mat.2); (have q1 : wa.frozen? ⟨b, 7, none⟩ = false := HMa.out.free 7); clear hc hg hf)
      | fail)
  go_wp2
  go_ret
  refine ⟨v, rfl, HC.out.setMsg HMa.out 7 _, fun h => ?_, HF.out.setMsg.ofDrew⟩
  obtain ⟨rfl, hr⟩ := HG.out h
  exact ⟨HMa.out.data _, hr.setMsg d1⟩

set_option maxRecDepth 100000 in
theorem clo3 (b A : Nat) (m : M) (w : World) (hA : w.cell? ⟨A, 0, none⟩ = some (.pointer (some ⟨b, 0, none⟩))) (hM : MB w b m) :
    Calls Tryd.prog 57 #[.pointer (some ⟨A, 0, none⟩)] w fun e w' => ∃ v, e = .returned v ∧ Chained w' v (errOf m.chk) ∧ Below w.heap.size w w' := by
  obtain ⟨c0, c1, c2, c3, c4, c5, c6, c7⟩ := hM.mat.all
  have HN := Lib.hid (refusal_any m w)
  clear hM
  go_enter Tryd.func57, Tryd.ntmps57
  go_wp2_with fail
  go_at_call 16
  refine HN.out.mono ?_
  rintro e w' ⟨v, rfl, hc, hb⟩
  have HC := Lib.hid hc
  have HB := Lib.hid hb
  clear hc hb
  go_wp2
  go_ret
  exact ⟨v, rfl, HC.out, HB.out⟩
end Go.Proofs.YtjgicapjbibioaaDoor
