/-
  Check (package wire), by a contract: what is wrong with a message, as a function of it.
-/
import Derived.Test.YthcoghgpdcnhlaaNumbers
import Derived.LoopTactic
import Derived.Deep.QuietTactic
import Derived.BigQuiet
import Derived.WalkSmall
namespace Go.Proofs.Ythcoghgpdcnhlaa
open Go.RowKit

/-- A message. -/
structure M where
  kind : Int
  src : Int
  dst : Int
  epoch : Int
  seq : Int
  off : Int
  len : Int
  data : ByteArray
@[reducible] def M.val (m : M) : Value := .agg #[.int .i64 m.kind, .int .i64 m.src, .int .i64 m.dst, .int .i64 m.epoch, .int .i64 m.seq, .int .i64 m.off, .int .i64 m.len, .string m.data]
@[reducible] def M.cells (m : M) : Array Value := #[.int .i64 m.kind, .int .i64 m.src, .int .i64 m.dst, .int .i64 m.epoch, .int .i64 m.seq, .int .i64 m.off, .int .i64 m.len, .string m.data]
/-- The number that stands at place i. -/
def M.fld (m : M) : Nat → Int
  | 0 => m.kind
  | 1 => m.src
  | 2 => m.dst
  | 3 => m.epoch
  | 4 => m.seq
  | 5 => m.off
  | _ => m.len
/-- How great it may be, and how many bytes it has. -/
def great : Nat → Int
  | 0 => 255
  | 1 => 7
  | 2 => 7
  | 3 => 1099511627776
  | 4 => 1099511627776
  | _ => 256
def wid : Nat → Int
  | 0 => 1
  | 1 => 1
  | 2 => 1
  | 3 => 8
  | 4 => 8
  | _ => 2
def M.okN (m : M) (i : Nat) : Prop := 0 ≤ m.fld i ∧ m.fld i ≤ great i
/-- Check's answer. -/
def M.chk (m : M) : Int :=
  if 0 ≤ m.kind ∧ m.kind ≤ 255 ∧ 0 ≤ m.src ∧ m.src ≤ 7 ∧ 0 ≤ m.dst ∧ m.dst ≤ 7 ∧ 0 ≤ m.epoch ∧ m.epoch ≤ 1099511627776 ∧ 0 ≤ m.seq ∧ m.seq ≤ 1099511627776 ∧ 0 ≤ m.off ∧ m.off ≤ 256 ∧ 0 ≤ m.len ∧ m.len ≤ 256 then
    (if m.data.size ≤ 1024 then 0 else 11) else 1
theorem M.chk_bad (m : M) (i : Nat) (hi : i < 7) (h : ¬ m.okN i) : m.chk = 1 := by
  unfold M.chk
  rw [if_neg]
  intro hc
  apply h
  rcases i with _ | _ | _ | _ | _ | _ | _ | i
  all_goals first | (simp only [M.okN, M.fld, great]; omega) | omega
theorem M.chk_all (m : M) (h : ∀ i, i < 7 → m.okN i) : m.chk = if m.data.size ≤ 1024 then 0 else 11 := by
  unfold M.chk
  rw [if_pos]
  have h0 := h 0 (by omega)
  have h1 := h 1 (by omega)
  have h2 := h 2 (by omega)
  have h3 := h 3 (by omega)
  have h4 := h 4 (by omega)
  have h5 := h 5 (by omega)
  have h6 := h 6 (by omega)
  simp only [M.okN, M.fld, great] at h0 h1 h2 h3 h4 h5 h6
  omega

theorem cell_lt3 {w : World} {b o : Nat} {v : Value} (h : w.cell? ⟨b, o, none⟩ = some v) : b < w.heap.size := by
  rcases Nat.lt_or_ge b w.heap.size with h1 | h1
  · exact h1
  · simp [World.cell?, Array.getElem?_eq_none h1] at h

/-- The message m lies in block b. -/
def Mat (w : World) (b : Nat) (m : M) : Prop := (∀ i, i < 7 → w.cell? ⟨b, i, none⟩ = some (.int .i64 (m.fld i))) ∧ w.cell? ⟨b, 7, none⟩ = some (.string m.data)
theorem Mat.lt {w : World} {b : Nat} {m : M} (h : Mat w b m) : b < w.heap.size := cell_lt3 h.2
theorem Mat.belowB {w w' : World} {B : Nat} (hb : Below B w w') {b : Nat} {m : M} (hB : b < B) (h : Mat w b m) : Mat w' b m :=
  ⟨fun i hi => by rw [hb.cell (p := ⟨b, i, none⟩) hB]; exact h.1 i hi, by rw [hb.cell (p := ⟨b, 7, none⟩) hB]; exact h.2⟩
theorem Mat.below {w w' : World} (hb : Below w.heap.size w w') {b : Nat} {m : M} (h : Mat w b m) : Mat w' b m := h.belowB hb h.lt
theorem Mat.fresh (w : World) (m : M) (t : TypeId) : Mat (w.alloc (.cells m.cells t)) w.heap.size m := by
  refine ⟨fun i hi => ?_, by simp [M.cells]⟩
  rcases i with _ | _ | _ | _ | _ | _ | _ | i
  all_goals first | (simp [M.cells, M.fld]; done) | omega
/-- The list of the numbers of block b lies in block n. -/
def Nat3 (w : World) (n b : Nat) : Prop := ∀ i, i < 7 → w.cell? ⟨n, i * 3, none⟩ = some (.pointer (some ⟨b, i, none⟩)) ∧ w.cell? ⟨n, i * 3 + 1, none⟩ = some (.int .i64 (wid i)) ∧ w.cell? ⟨n, i * 3 + 2, none⟩ = some (.int .i64 (great i))
theorem Nat3.belowB {w w' : World} {B : Nat} (hb : Below B w w') {n b : Nat} (hB : n < B) (h : Nat3 w n b) : Nat3 w' n b := fun i hi =>
  ⟨by rw [hb.cell (p := ⟨n, i * 3, none⟩) hB]; exact (h i hi).1, by rw [hb.cell (p := ⟨n, i * 3 + 1, none⟩) hB]; exact (h i hi).2.1, by rw [hb.cell (p := ⟨n, i * 3 + 2, none⟩) hB]; exact (h i hi).2.2⟩
theorem Nat3.lt {w : World} {n b : Nat} (h : Nat3 w n b) : n < w.heap.size := cell_lt3 (h 0 (by omega)).1
theorem Nat3.below {w w' : World} (hb : Below w.heap.size w w') {n b : Nat} (h : Nat3 w n b) : Nat3 w' n b := h.belowB hb h.lt
theorem Nat3.fresh (w : World) (b : Nat) (t : TypeId) : Nat3 (w.alloc (.cells (numCells b) t)) w.heap.size b := by
  intro i hi
  rcases i with _ | _ | _ | _ | _ | _ | _ | i
  all_goals first | (simp [numCells, wid, great]; done) | omega
theorem numbers_at (b : Nat) (w : World) :
    Calls Try.prog 44 #[.pointer (some ⟨b, 0, none⟩)] w fun e w' => e = .returned (.slice (some ⟨w.heap.size, 0, none⟩) 7 7) ∧ Nat3 w' w.heap.size b ∧ Below w.heap.size w w' := by
  refine (numbers_any b w).mono ?_
  rintro e w' ⟨rfl, rfl⟩
  exact ⟨rfl, Nat3.fresh w.drew b _, ((Below.refl _ _).drew).alloc (Nat.le_refl _) _⟩

set_option maxRecDepth 100000 in
set_option maxHeartbeats 2000000 in
theorem check_any (m : M) (w : World) :
    Calls Try.prog 36 #[m.val] w fun e w' => e = .returned (.int .i64 m.chk) ∧ Below w.heap.size w w' := by
  have HB0 := Lib.hid (show Below w.heap.size w (w.alloc (.cells m.cells 31)) from (Below.refl _ _).alloc (Nat.le_refl _) _)
  have HM0 := Lib.hid (Mat.fresh w m 31)
  go_enter Try.func36, Try.ntmps36
  go_wp2_with fail
  go_at_call 44
  refine (numbers_at _ _).mono ?_
  rintro e w1 ⟨rfl, hn1, hb1⟩
  have HM1 := Lib.hid (HM0.out.below hb1)
  have HB1 := Lib.hid (HB0.out.trans (hb1.mono HB0.out.size))
  have HN1 := Lib.hid hn1
  have hbl := HM1.out.lt
  have hnl := HN1.out.lt
  generalize (w.alloc (.cells m.cells 31)).heap.size = n at *
  clear HM0 HB0 hn1 hb1
  go_wp2
  go_loopw [7] (fun iv wr => ∃ i : Nat, i ≤ 7 ∧ iv = .int .i64 i ∧ (∀ j, j < i → m.okN j) ∧ Below w1.heap.size w1 wr) (fun iv _ => 7 - (intOf iv).toNat)
  case atStart => exact ⟨0, by omega, rfl, fun j hj => by omega, Below.refl _ _⟩
  case round =>
    obtain ⟨i, hi, rfl, hall, hb⟩ := hrel
    have HALL := Lib.hid hall
    have HB := Lib.hid hb
    have hz := hb.size
    have hM := HM1.out.belowB hb hbl
    have hN := HN1.out.belowB hb hnl
    clear hall hb
    by_cases hlt : i < 7
    · obtain ⟨c0, c1, c2⟩ := hN i hlt
      have f0 := hM.1 i hlt
      have hiI : (i : Int) < 7 := by omega
      have hi0 : (0 : Int) ≤ (i : Int) := by omega
      have hbw : w.heap.size < wr.heap.size := by omega
      have hnw : n < wr.heap.size := by omega
      clear hM hN
      generalize hv : m.fld i = v at f0
      generalize hgr : great i = g at c2
      have HV := Lib.hid hv
      have HGR := Lib.hid hgr
      clear hv hgr
      by_cases hneg : v < 0
      · have hd : decide (v < 0) = true := by simpa using hneg
        go_wp2
        go_quiet (fail)
        go_wp2
        go_ret
        have hc := m.chk_bad i hlt (fun h => by have := h.1; rw [HV.out] at this; omega)
        exact ⟨by rw [hc]; rfl, HB1.out.trans (below_drewN (HB.out.alloc hz _) _ |>.mono HB1.out.size)⟩
      · have hd : decide (v < 0) = false := by simpa using hneg
        by_cases hbig : g < v
        · have hd2 : decide (g < v) = true := by simpa using hbig
          go_wp2
          go_quiet (fail)
          go_wp2
          go_ret
          have hc := m.chk_bad i hlt (fun h => by have := h.2; rw [HV.out, HGR.out] at this; omega)
          exact ⟨by rw [hc]; rfl, HB1.out.trans (below_drewN (HB.out.alloc hz _) _ |>.mono HB1.out.size)⟩
        · have hd2 : decide (g < v) = false := by simpa using hbig
          go_wp2
          go_quiet (fail)
          go_wp2
          go_roundw
          case rel =>
            refine ⟨i + 1, by omega, by go_num, fun j hj => ?_, below_drewN (HB.out.alloc hz _) _⟩
            by_cases hji : j = i
            · subst hji
              exact ⟨by rw [HV.out]; omega, by rw [HV.out, HGR.out]; omega⟩
            · exact HALL.out j (by omega)
          case measure => simp [intOf]; omega
    · have hc := m.chk_all (fun j hj => HALL.out j (by omega))
      have hiI : ¬ (i : Int) < 7 := by omega
      have f7 := hM.2
      have HC := Lib.hid hc
      clear hM hN hc
      by_cases hs : m.data.size ≤ 1024
      · have hsI : (m.data.size : Int) ≤ 1024 := by omega
        go_wp2
        go_ret
        exact ⟨by rw [HC.out, if_pos hs]; rfl, HB1.out.trans (HB.out.mono HB1.out.size)⟩
      · have hsI : (1024 : Int) < (m.data.size : Int) := by omega
        go_wp2
        go_ret
        exact ⟨by rw [HC.out, if_neg hs]; rfl, HB1.out.trans (HB.out.mono HB1.out.size)⟩
end Go.Proofs.Ythcoghgpdcnhlaa
