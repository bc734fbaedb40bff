/-
  Histories in memory: rows of numbers, and what each of them counts for.
-/
import Derived.Test.YtdkkoeiceaolnaaClamp
namespace Go.Proofs.Ytdkkoeiceaolnaa
open Go.RowKit

theorem cell_lt5 {w : World} {b o : Nat} {v : Value} (h : w.cell? ⟨b, o, none⟩ = some v) : b < w.heap.size := by
  rcases Nat.lt_or_ge b w.heap.size with h' | h'
  · exact h'
  · simp [World.cell?, Array.getElem?_eq_none h'] at h

/-- A list of n ticks, at A. -/
def Tks (w : World) (A : Option Addr) (n : Nat) (f g : Nat → Int) : Prop :=
  ∀ i, i < n → ∃ b off, A = some ⟨b, off, none⟩ ∧ w.cell? ⟨b, off + i * 2, none⟩ = some (.int .i64 (f i)) ∧ w.cell? ⟨b, off + i * 2 + 1, none⟩ = some (.int .i64 (g i))
/-- A list of n bytes, at A. -/
def Bts (w : World) (A : Option Addr) (n : Nat) (z : Nat → Int) : Prop :=
  ∀ i, i < n → ∃ b off, A = some ⟨b, off, none⟩ ∧ w.cell? ⟨b, off + i, none⟩ = some (.int .u8 (z i)) ∧ 0 ≤ z i ∧ z i ≤ 255
/-- One row: a list of L numbers at B, that count for t. -/
structure Line (w : World) (B : Option Addr) (L : Nat) (z : Nat → Int) (t : Nat → Int) : Prop where
  len : L ≤ 9223372036854775807
  at' : ∀ c, c < L → ∃ bb bo, B = some ⟨bb, bo, none⟩ ∧ w.cell? ⟨bb, bo + c, none⟩ = some (.int .i64 (z c))
  val : ∀ c, c < L → t c = cl (z c) 0 1048576
  out : ∀ c, L ≤ c → t c = 0
/-- A history of n rows at A, in which the clock c goes on by T r c in row r. -/
def Hist (w : World) (A : Option Addr) (n : Nat) (T : Nat → Nat → Int) : Prop :=
  ∀ r, r < n → ∃ ab ao B L C z, A = some ⟨ab, ao, none⟩ ∧ w.cell? ⟨ab, ao + r, none⟩ = some (.slice B L C) ∧ Line w B L z (T r)
theorem Line.bound {w : World} {B : Option Addr} {L : Nat} {z t : Nat → Int} (h : Line w B L z t) (c : Nat) : 0 ≤ t c ∧ t c ≤ 1048576 := by
  rcases Nat.lt_or_ge c L with hc | hc
  · rw [h.val c hc]; exact cl_in _ _ _ (by omega)
  · rw [h.out c hc]; omega
theorem Line.below {w w' : World} {B : Option Addr} {L : Nat} {z t : Nat → Int} (h : Line w B L z t) {N : Nat} (hb : Below N w w') (hN : w.heap.size ≤ N) : Line w' B L z t := by
  refine ⟨h.len, fun c hc => ?_, h.val, h.out⟩
  obtain ⟨bb, bo, hB, hx⟩ := h.at' c hc
  exact ⟨bb, bo, hB, (hb.cell (p := ⟨bb, bo + c, none⟩) (Nat.lt_of_lt_of_le (cell_lt5 hx) hN)).trans hx⟩
theorem Hist.below {w w' : World} {A : Option Addr} {n : Nat} {T : Nat → Nat → Int} (h : Hist w A n T) {N : Nat} (hb : Below N w w') (hN : w.heap.size ≤ N) : Hist w' A n T := by
  intro r hr
  obtain ⟨ab, ao, B, L, C, z, hA, hx, hl⟩ := h r hr
  exact ⟨ab, ao, B, L, C, z, hA, (hb.cell (p := ⟨ab, ao + r, none⟩) (Nat.lt_of_lt_of_le (cell_lt5 hx) hN)).trans hx, hl.below hb hN⟩
theorem Hist.bound {w : World} {A : Option Addr} {n : Nat} {T : Nat → Nat → Int} (h : Hist w A n T) {r : Nat} (hr : r < n) (c : Nat) : 0 ≤ T r c ∧ T r c ≤ 1048576 := by
  obtain ⟨ab, ao, B, L, C, z, hA, hx, hl⟩ := h r hr
  exact hl.bound c
end Go.Proofs.Ytdkkoeiceaolnaa
