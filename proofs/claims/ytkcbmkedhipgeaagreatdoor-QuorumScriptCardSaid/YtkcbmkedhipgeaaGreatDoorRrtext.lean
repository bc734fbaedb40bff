/-
  The document's own answers of layer 1 (weirkeepref01), by contracts: wide, one, a fault's Code, Same; alike.

  The document's writer (weirkeepref01), by contracts: its Num.

  The document's writer (weirkeepref01), by contracts: its Text, its Bytes.

  The document's reader (weirkeepref01), by contracts: its Num.

  The document's reader (weirkeepref01), by contracts: its Num, walked.

  The document's reader (weirkeepref01), by contracts: its Text, its End.
-/
import Derived.Test.YtkcbmkedhipgeaaGreatDoorTwo
import Derived.Deep.RegionHeld3
namespace Go.Proofs.YtkcbmkedhipgeaaGreatDoor
open Go.RowKit Go.Extern.Stop Go.Stop Go.Extern Go.PlainAid Go.Lib

/-- A fault of the document's: its errors es, in memory. -/
def RF (w : World) (A : Option Addr) (n c : Nat) (es : List Int) : Prop :=
  es.length = n ∧ n ≤ c ∧ (es = [] ∧ A = none ∧ c = 0 ∨ ∃ g, A = some ⟨g, 0, none⟩ ∧ ∀ j x, es[j]? = some x → w.cell? ⟨g, j, none⟩ = some (.int .i64 x))

theorem RF.below {w w' : World} {A : Option Addr} {n c : Nat} {es : List Int} (h : RF w A n c es) (hb : Below w.heap.size w w') : RF w' A n c es := by
  obtain ⟨h1, h2, h3⟩ := h
  refine ⟨h1, h2, ?_⟩
  rcases h3 with h3 | ⟨g, hA, hc⟩
  · exact .inl h3
  · exact .inr ⟨g, hA, fun j x hx => by rw [hb.cell (p := ⟨g, j, none⟩) (cell_lt (hc j x hx))]; exact hc j x hx⟩
theorem RF.none_ {w : World} : RF w none 0 0 [] := ⟨rfl, Nat.le_refl _, .inl ⟨rfl, rfl, rfl⟩⟩

theorem RF.setOther {w : World} {A : Option Addr} {n c : Nat} {es : List Int} (h : RF w A n c es) {p : Addr} (u : Value) (hp : ∀ g, A = some ⟨g, 0, none⟩ → p.block ≠ g) : RF (w.setCell p u) A n c es := by
  obtain ⟨h1, h2, h3⟩ := h
  refine ⟨h1, h2, ?_⟩
  rcases h3 with h3 | ⟨g, hA, hc⟩
  · exact .inl h3
  · refine .inr ⟨g, hA, fun j x hx => ?_⟩
    rw [World.cell?_setCell_other _ _ _ _ (fun e => hp g hA (by rw [e]))]
    exact hc j x hx

end Go.Proofs.YtkcbmkedhipgeaaGreatDoor

namespace Go.Proofs.YtkcbmkedhipgeaaGreatDoor
open Go.RowKit Go.Extern.Stop Go.Stop Go.Extern Go.PlainAid Go.Lib

theorem Fr.refl (b : Nat) (row : Option Nat) (w : World) : Fr b row w w := ⟨rfl, rfl, rfl, Nat.le_refl _, fun _ _ _ _ => rfl⟩
theorem Fr.alloc {b : Nat} {row : Option Nat} {w w1 : World} (h : Fr b row w w1) (o : Obj) : Fr b row w (w1.alloc o) :=
  ⟨h.os, h.tape, h.output, by have := h.size; simp; omega, fun k hk h1 h2 => by rw [Below.heap_alloc w1 o k (by have := h.size; omega)]; exact h.block k hk h1 h2⟩
/-- Below ahead, then such a step, then a store into a new block. -/
theorem Fr.after {b : Nat} {row : Option Nat} {w w0 w1 : World} (hb : Below w.heap.size w w0) (h : Fr b row w0 w1) : Fr b row w w1 :=
  ⟨h.os.trans hb.os, h.tape.trans hb.tape, h.output.trans hb.output, Nat.le_trans hb.size h.size, fun k hk h1 h2 => (h.block k (Nat.lt_of_lt_of_le hk hb.size) h1 h2).trans (hb.block k hk)⟩
theorem Fr.then_ {b : Nat} {row : Option Nat} {w w1 w2 : World} (h : Fr b row w w1) (hb : Below w.heap.size w1 w2) : Fr b row w w2 :=
  ⟨hb.os.trans h.os, hb.tape.trans h.tape, hb.output.trans h.output, Nat.le_trans h.size hb.size, fun k hk h1 h2 => (hb.block k hk).trans (h.block k hk h1 h2)⟩
theorem RowOk.trans {r1 r2 r3 : Option Nat} {w w' : World} (h : RowOk r1 r2 w) (h' : RowOk r2 r3 w') (hz : w.heap.size ≤ w'.heap.size) : RowOk r1 r3 w := by
  rcases h' with rfl | ⟨g, rfl, hg⟩
  · exact h
  · exact .inr ⟨g, rfl, by omega⟩

theorem leb_succ (n : Int) (j : Nat) (hj : j < 8) : leb n (j + 1) = leb n j ++ [n / 256 ^ j % 256] := by
  obtain rfl | rfl | rfl | rfl | rfl | rfl | rfl | rfl : j = 0 ∨ j = 1 ∨ j = 2 ∨ j = 3 ∨ j = 4 ∨ j = 5 ∨ j = 6 ∨ j = 7 := by omega
  all_goals simp [leb]

theorem pow_div (n : Int) (j : Nat) : n / 256 ^ j / 256 = n / 256 ^ (j + 1) := by
  rw [Int.ediv_ediv_of_nonneg (Int.pow_nonneg (by decide)), Int.pow_succ]
/-- The result's cells, in a block that only this call has. -/
def Res (w : World) (R : Nat) : Prop := w.cell? ⟨R, 0, none⟩ = some (.slice none 0 0) ∧ w.cell? ⟨R, 1, none⟩ = some (.int .i64 0) ∧ w.frozen? ⟨R, 0, none⟩ = false ∧ w.frozen? ⟨R, 1, none⟩ = false
theorem Res.fr {w w' : World} {R b : Nat} {row : Option Nat} (h : Res w R) (hf : Fr b row w w') (h1 : R ≠ b) (h2 : some R ≠ row) (hl : R < w.heap.size) : Res w' R := by
  have hb := hf.block R hl h1 h2
  obtain ⟨a, c, d, e⟩ := h
  exact ⟨by rw [World.cell?_of_block (w := w) (a := ⟨R, 0, none⟩) hb]; exact a, by rw [World.cell?_of_block (w := w) (a := ⟨R, 1, none⟩) hb]; exact c, by rw [World.frozen?_of_block (w := w) (a := ⟨R, 0, none⟩) hb]; exact d, by rw [World.frozen?_of_block (w := w) (a := ⟨R, 1, none⟩) hb]; exact e⟩
theorem res_cells {w : World} {R : Nat} {x0 x1 : Value} (h0 : w.cell? ⟨R, 0, none⟩ = some x0) (h1 : w.cell? ⟨R, 1, none⟩ = some x1) (v0 v1 : Value) :
    ((w.setCell ⟨R, 0, none⟩ v0).setCell ⟨R, 1, none⟩ v1).cell? ⟨R, 0, none⟩ = some v0 ∧ ((w.setCell ⟨R, 0, none⟩ v0).setCell ⟨R, 1, none⟩ v1).cell? ⟨R, 1, none⟩ = some v1 := by
  have e1 : (w.setCell ⟨R, 0, none⟩ v0).cell? ⟨R, 1, none⟩ = some x1 := by rw [World.cell?_setCell_other _ _ _ _ (by simp)]; exact h1
  refine ⟨?_, World.cell?_setCell_same _ _ _ e1⟩
  rw [World.cell?_setCell_other _ _ _ _ (by simp)]; exact World.cell?_setCell_same _ _ _ h0
theorem Res.below {w w' : World} {R : Nat} (h : Res w R) (hb : Below w.heap.size w w') (hl : R < w.heap.size) : Res w' R :=
  h.fr (b := w.heap.size) (row := none) ⟨hb.os, hb.tape, hb.output, hb.size, fun k hk _ _ => hb.block k hk⟩ (by omega) (by simp) hl
theorem Wrt.setOther {w : World} {b : Nat} {row : Option Nat} {bs : List Int} (h : Wrt w b row bs) {p : Addr} (u : Value) (h1 : p.block ≠ b) (h2 : row ≠ some p.block) : Wrt (w.setCell p u) b row bs := by
  have hf : Fr p.block none w (w.setCell p u) := ⟨rfl, rfl, rfl, by simp [World.setCell], fun k _ hk _ => Below.heap_setCell _ _ _ _ hk⟩
  exact h.fr hf (Ne.symm h1) (by simp) (fun g hg => ⟨fun e => h2 (by rw [hg, e]), by simp⟩)

end Go.Proofs.YtkcbmkedhipgeaaGreatDoor

namespace Go.Proofs.YtkcbmkedhipgeaaGreatDoor
open Go.RowKit Go.Extern.Stop Go.Stop Go.Extern Go.PlainAid Go.Lib

end Go.Proofs.YtkcbmkedhipgeaaGreatDoor

namespace Go.Proofs.YtkcbmkedhipgeaaGreatDoor
open Go.RowKit Go.Extern.Stop Go.Stop Go.Extern Go.PlainAid Go.Lib

theorem bt_extract (s : ByteArray) (a i : Nat) (h : a + i < s.size) : bt (s.extract a s.size) i = bt s (a + i) := by
  have h1 : i < (s.extract a s.size).size := by simp; omega
  unfold bt
  rw [dif_pos h1, dif_pos h]
  simp [ByteArray.getElem_extract]

/-- The number that bytes i to k - 1 make. -/
def hv (s : ByteArray) (a k : Nat) : Nat → Nat → Int
  | 0, _ => 0
  | f + 1, i => if i < k then bt s (a + i) + 256 * hv s a k f (i + 1) else 0
theorem hv_fuel (s : ByteArray) (a k : Nat) : ∀ f i, k ≤ i → hv s a k f i = 0
  | 0, _, _ => rfl
  | f + 1, i, h => by simp only [hv]; rw [if_neg (by omega)]
theorem hv_enough (s : ByteArray) (a k : Nat) : ∀ f g i, k ≤ f + i → k ≤ g + i → hv s a k f i = hv s a k g i
  | 0, g, i, h, _ => by rw [hv_fuel s a k 0 i (by omega), hv_fuel s a k g i (by omega)]
  | f + 1, 0, i, _, h => by rw [hv_fuel s a k 0 i (by omega), hv_fuel s a k (f + 1) i (by omega)]
  | f + 1, g + 1, i, h, h' => by
    simp only [hv]
    split
    · rw [hv_enough s a k f g (i + 1) (by omega) (by omega)]
    · rfl
/-- From i on. -/
def hvf (s : ByteArray) (a k i : Nat) : Int := hv s a k k i
theorem hvf_end (s : ByteArray) (a k : Nat) : hvf s a k k = 0 := hv_fuel s a k k k (Nat.le_refl _)
theorem hvf_step (s : ByteArray) (a k i : Nat) (h : i < k) : hvf s a k i = hvf s a k (i + 1) * 256 + bt s (a + i) := by
  unfold hvf
  obtain ⟨f, rfl⟩ : ∃ f, k = f + 1 := ⟨k - 1, by omega⟩
  rw [show hv s a (f + 1) (f + 1) i = bt s (a + i) + 256 * hv s a (f + 1) f (i + 1) from by simp only [hv]; rw [if_pos h], hv_enough s a (f + 1) f (f + 1) (i + 1) (by omega) (by omega)]
  omega
theorem hvf_nonneg (s : ByteArray) (a k : Nat) : ∀ d i, k = i + d → 0 ≤ hvf s a k i
  | 0, i, h => by have : i = k := by omega
                  subst this; rw [hvf_end]; decide
  | d + 1, i, h => by
    rw [hvf_step s a k i (by omega)]
    have := hvf_nonneg s a k d (i + 1) (by omega)
    have := bt_nonneg s (a + i)
    omega
theorem lev_hvf (s : ByteArray) (a k : Nat) (hk : a + k ≤ s.size) : ∀ m, m ≤ k → lev (s.extract a s.size) m + 256 ^ m * hvf s a k m = hvf s a k 0
  | 0, _ => by simp [lev]
  | m + 1, h => by
    have ih := lev_hvf s a k hk m (by omega)
    rw [hvf_step s a k m (by omega)] at ih
    simp only [lev]
    rw [bt_extract s a m (by omega)]
    have e : (256 : Int) ^ (m + 1) = 256 ^ m * 256 := Int.pow_succ _ _
    rw [e, ← ih, Int.mul_add, Int.mul_comm (bt s (a + m)), Int.mul_assoc, Int.mul_comm (hvf s a k (m + 1)) 256]
    omega
theorem hvf_lev (s : ByteArray) (a k : Nat) (hk : a + k ≤ s.size) : hvf s a k 0 = lev (s.extract a s.size) k := by
  have := lev_hvf s a k hk k (Nat.le_refl _)
  rw [hvf_end] at this
  omega
theorem hvf_mono (s : ByteArray) (a k : Nat) : ∀ i, i ≤ k → hvf s a k i ≤ hvf s a k 0
  | 0, _ => Int.le_refl _
  | i + 1, h => by
    have ih := hvf_mono s a k i (by omega)
    have st := hvf_step s a k i (by omega)
    have := hvf_nonneg s a k (k - (i + 1)) (i + 1) (by omega)
    have := bt_nonneg s (a + i)
    omega
end Go.Proofs.YtkcbmkedhipgeaaGreatDoor

namespace Go.Proofs.YtkcbmkedhipgeaaGreatDoor
open Go.RowKit Go.Extern.Stop Go.Stop Go.Extern Go.PlainAid Go.Lib

theorem Rdr.setOther {w : World} {b a : Nat} {s : ByteArray} (h : Rdr w b s a) {p : Addr} (u : Value) (hp : p.block ≠ b) : Rdr (w.setCell p u) b s a := by
  obtain ⟨h0, h1, h2⟩ := h
  exact ⟨by rw [World.cell?_setCell_other _ _ _ _ (fun e => hp (by rw [e]))]; exact h0, by rw [World.cell?_setCell_other _ _ _ _ (fun e => hp (by rw [e]))]; exact h1, by rw [World.frozen?_setCell]; exact h2⟩
theorem width8' : Width 8 := .inr (.inr (.inr rfl))
end Go.Proofs.YtkcbmkedhipgeaaGreatDoor

namespace Go.Proofs.YtkcbmkedhipgeaaGreatDoor
open Go.RowKit Go.Extern.Stop Go.Stop Go.Extern Go.PlainAid Go.Lib

theorem Fr.of_below {b : Nat} {row : Option Nat} {w w' : World} (h : Below w.heap.size w w') : Fr b row w w' := ⟨h.os, h.tape, h.output, h.size, fun k hk _ _ => h.block k hk⟩
theorem Fr.trans {b : Nat} {w w1 w2 : World} (h : Fr b none w w1) (h' : Fr b none w1 w2) : Fr b none w w2 :=
  ⟨h'.os.trans h.os, h'.tape.trans h.tape, h'.output.trans h.output, Nat.le_trans h.size h'.size, fun k hk h1 h2 => (h'.block k (Nat.lt_of_lt_of_le hk h.size) h1 h2).trans (h.block k hk h1 h2)⟩
/-- Where the reader stands is set. -/
theorem Rdr.put {w : World} {b a : Nat} {s : ByteArray} (h : Rdr w b s a) (c : Nat) : Rdr (w.setCell ⟨b, 1, none⟩ (.int .i64 c)) b s c ∧ Fr b none w (w.setCell ⟨b, 1, none⟩ (.int .i64 c)) := Rdr.stored (Below.refl _ _) h c

end Go.Proofs.YtkcbmkedhipgeaaGreatDoor
