/-
  between (package clock), by a contract: the ways from one sum to a later one.
-/
import Derived.Test.YtdkkoeiceaolnaaExtr
namespace Go.Proofs.Ytdkkoeiceaolnaa
open Go.RowKit

/-- Eight numbers, as a value and as cells. -/
@[reducible] def ar (z : Nat → Int) : Array Value := #[.int .i64 (z 0), .int .i64 (z 1), .int .i64 (z 2), .int .i64 (z 3), .int .i64 (z 4), .int .i64 (z 5), .int .i64 (z 6), .int .i64 (z 7)]
def intF (z : Nat → Int) : Nat → Value := fun i => .int .i64 (z i)
theorem ar_get (z : Nat → Int) (i : Nat) (h : i < 8) : (ar z)[i]? = some (intF z i) := by
  match i, h with
  | 0, _ | 1, _ | 2, _ | 3, _ | 4, _ | 5, _ | 6, _ | 7, _ => rfl
theorem row_new (w : World) (z : Nat → Int) (t : TypeId) : (w.alloc (.cells (ar z) t)).rowIs w.heap.size t 8 (intF z) := World.rowIs_alloc w (ar z) t _ (fun i hi => ar_get z i hi)
theorem row_cells {w : World} {b t : Nat} {z : Nat → Int} (h : w.rowIs b t 8 (intF z)) :
    w.cell? ⟨b, 0, none⟩ = some (.int .i64 (z 0)) ∧ w.cell? ⟨b, 1, none⟩ = some (.int .i64 (z 1)) ∧ w.cell? ⟨b, 2, none⟩ = some (.int .i64 (z 2)) ∧ w.cell? ⟨b, 3, none⟩ = some (.int .i64 (z 3)) ∧
    w.cell? ⟨b, 4, none⟩ = some (.int .i64 (z 4)) ∧ w.cell? ⟨b, 5, none⟩ = some (.int .i64 (z 5)) ∧ w.cell? ⟨b, 6, none⟩ = some (.int .i64 (z 6)) ∧ w.cell? ⟨b, 7, none⟩ = some (.int .i64 (z 7)) :=
  ⟨h.cell (by omega), h.cell (by omega), h.cell (by omega), h.cell (by omega), h.cell (by omega), h.cell (by omega), h.cell (by omega), h.cell (by omega)⟩

set_option maxRecDepth 100000 in
set_option maxHeartbeats 2000000 in
theorem between_any (f g : Nat → Int) (w : World) (hf : ∀ i, i < 8 → 0 ≤ f i ∧ f i ≤ 33554432) (hg : ∀ i, i < 8 → 0 ≤ g i ∧ g i ≤ 33554432) :
    Calls Try.prog 28 #[.agg (ar f), .agg (ar g)] w fun e w' => e = .returned (.agg (ar fun i => g i - f i)) ∧ Below w.heap.size w w' := by
  have HF := Lib.hid hf
  have HG := Lib.hid hg
  clear hf hg
  have z1 : (w.alloc (.cells (ar f) 62)).heap.size = w.heap.size + 1 := by simp
  have z2 : ((w.alloc (.cells (ar f) 62)).alloc (.cells (ar g) 62)).heap.size = w.heap.size + 1 + 1 := by simp
  have R0 := ((row_new w f 62).alloc (.cells (ar g) 62)).alloc (.cells #[.int .i64 0, .int .i64 0, .int .i64 0, .int .i64 0, .int .i64 0, .int .i64 0, .int .i64 0, .int .i64 0] 62)
  have R1 := (row_new (w.alloc (.cells (ar f) 62)) g 62).alloc (.cells #[.int .i64 0, .int .i64 0, .int .i64 0, .int .i64 0, .int .i64 0, .int .i64 0, .int .i64 0, .int .i64 0] 62)
  have R2 : (((w.alloc (.cells (ar f) 62)).alloc (.cells (ar g) 62)).alloc (.cells #[.int .i64 0, .int .i64 0, .int .i64 0, .int .i64 0, .int .i64 0, .int .i64 0, .int .i64 0, .int .i64 0] 62)).rowIs ((w.alloc (.cells (ar f) 62)).alloc (.cells (ar g) 62)).heap.size 62 8 (intF fun _ => 0) := row_new ((w.alloc (.cells (ar f) 62)).alloc (.cells (ar g) 62)) (fun _ => 0) 62
  have B0 : Below w.heap.size w (((w.alloc (.cells (ar f) 62)).alloc (.cells (ar g) 62)).alloc (.cells #[.int .i64 0, .int .i64 0, .int .i64 0, .int .i64 0, .int .i64 0, .int .i64 0, .int .i64 0, .int .i64 0] 62)) := by go_grown
  rw [z1] at R1
  rw [z2] at R2
  have H0 := Lib.hid R0
  have H1 := Lib.hid R1
  have H2 := Lib.hid R2
  have HB := Lib.hid B0
  clear R0 R1 R2 B0 z1 z2
  go_enter Try.func28, Try.ntmps28
  go_wp2
  generalize (((w.alloc (.cells (ar f) 62)).alloc (.cells (ar g) 62)).alloc (.cells #[.int .i64 0, .int .i64 0, .int .i64 0, .int .i64 0, .int .i64 0, .int .i64 0, .int .i64 0, .int .i64 0] 62)) = w3 at H0 H1 H2 HB ⊢
  go_loopw [6] (fun v wr => ∃ i : Nat, i ≤ 8 ∧ v = .int .i64 i ∧ wr.rowIs w.heap.size 62 8 (intF f) ∧ wr.rowIs (w.heap.size + 1) 62 8 (intF fun c => if c < i then g c - f c else g c) ∧ wr.rowIs (w.heap.size + 1 + 1) 62 8 (intF fun _ => 0) ∧ Below w.heap.size w wr) (fun v _ => 8 - (intOf v).toNat)
  case atStart => exact ⟨0, by omega, rfl, H0.out, by simpa using H1.out, H2.out, HB.out⟩
  case round =>
    obtain ⟨i, hi, rfl, k0, k1, k2, k3⟩ := hrel
    have K0 := Lib.hid k0
    have K1 := Lib.hid k1
    have K2 := Lib.hid k2
    have K3 := Lib.hid k3
    clear k0 k1 k2 k3 H0 H1 H2 HB
    by_cases hlt : i < 8
    · have c0 : wr.cell? ⟨w.heap.size, i, none⟩ = some (.int .i64 (f i)) := K0.out.cell hlt
      have c1 : wr.cell? ⟨w.heap.size + 1, i, none⟩ = some (.int .i64 (g i)) := by rw [K1.out.cell hlt]; simp [intF]
      have c2 : wr.frozen? ⟨w.heap.size + 1, i, none⟩ = false := K1.out.frozen i
      obtain ⟨f0, f1⟩ := HF.out i hlt
      obtain ⟨g0, g1⟩ := HG.out i hlt
      have hi8 : (i : Int) < 8 := by omega
      go_wp2
      go_region
      go_wp2
      go_roundw
      case rel =>
        refine ⟨i + 1, by omega, by go_num, (K0.out.setOther (by simp) _).drew, ?_, (K2.out.setOther (by simp) _).drew, (K3.out.setCell (p := ⟨w.heap.size + 1, i, none⟩) (by simp) _).drew⟩
        refine ((K1.out.set i _).drew).congr fun c _ => ?_
        unfold intF
        by_cases hc : c = i
        · subst hc; simp
        · simp only [hc, if_false]
          congr 1
          by_cases h1 : c < i
          · rw [if_pos h1, if_pos (by omega)]
          · rw [if_neg h1, if_neg (by omega)]
      case measure => simp [intOf]; omega
    · obtain rfl : i = 8 := by omega
      have k1 : wr.rowIs (w.heap.size + 1) 62 8 (intF fun c => g c - f c) := K1.out.congr fun c hc => by simp [intF, hc]
      obtain ⟨c0, c1, c2, c3, c4, c5, c6, c7⟩ := row_cells k1
      obtain ⟨d0, d1, d2, d3, d4, d5, d6, d7⟩ := row_cells K2.out
      have hfz : ∀ o, wr.frozen? ⟨w.heap.size + 1 + 1, o, none⟩ = false := fun o => K2.out.frozen o
      clear k1 K0 K1
      go_wp2
      have e := ((((((((K2.out.set 0 (.int .i64 (g 0 - f 0))).set 1 (.int .i64 (g 1 - f 1))).set 2 (.int .i64 (g 2 - f 2))).set 3 (.int .i64 (g 3 - f 3))).set 4 (.int .i64 (g 4 - f 4))).set 5 (.int .i64 (g 5 - f 5))).set 6 (.int .i64 (g 6 - f 6))).set 7 (.int .i64 (g 7 - f 7)))
      have e0 := e.cell (i := 0) (by omega)
      have e1 := e.cell (i := 1) (by omega)
      have e2 := e.cell (i := 2) (by omega)
      have e3 := e.cell (i := 3) (by omega)
      have e4 := e.cell (i := 4) (by omega)
      have e5 := e.cell (i := 5) (by omega)
      have e6 := e.cell (i := 6) (by omega)
      have e7 := e.cell (i := 7) (by omega)
      simp at e0 e1 e2 e3 e4 e5 e6 e7
      exact bodyPost_ret (v := .agg (ar fun i => g i - f i)) (by simp [results, Try.results28, go_sem, e0, e1, e2, e3, e4, e5, e6, e7]) rfl ⟨rfl, ((((((((K3.out.setCell (p := ⟨w.heap.size + 1 + 1, 0, none⟩) (by simp; omega) _).setCell (p := ⟨w.heap.size + 1 + 1, 1, none⟩) (by simp; omega) _).setCell (p := ⟨w.heap.size + 1 + 1, 2, none⟩) (by simp; omega) _).setCell (p := ⟨w.heap.size + 1 + 1, 3, none⟩) (by simp; omega) _).setCell (p := ⟨w.heap.size + 1 + 1, 4, none⟩) (by simp; omega) _).setCell (p := ⟨w.heap.size + 1 + 1, 5, none⟩) (by simp; omega) _).setCell (p := ⟨w.heap.size + 1 + 1, 6, none⟩) (by simp; omega) _).setCell (p := ⟨w.heap.size + 1 + 1, 7, none⟩) (by simp; omega) _)⟩
end Go.Proofs.Ytdkkoeiceaolnaa
