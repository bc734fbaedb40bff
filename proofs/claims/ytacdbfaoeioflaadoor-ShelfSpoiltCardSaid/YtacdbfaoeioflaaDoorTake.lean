/-
  A running sum takes a byte (package check), by a contract.
-/
import Derived.Test.YtacdbfaoeioflaaDoorProg
import Derived.Test.YtacdbfaoeioflaaDoorCrc
import Derived.WalkKit
import Derived.Handy
import Derived.BigRegion
import Derived.Lib.Hide
import Derived.Laws.BitsAllLaws
import Derived.Lib.LaidTab
namespace Go.Proofs.YtacdbfaoeioflaaDoor
open Go.RowKit

/-- The table lies as it is written out. -/
def Tab (w : World) : Prop := ∀ i, i < 16 → w.cell? ⟨1, i, none⟩ = some (.int .u32 (tabH i : Int))

/-- From w to w' only block b has turned. -/
structure One (b : Nat) (w w' : World) : Prop where
  os : w'.os = w.os
  tape : w'.tape = w.tape
  output : w'.output = w.output
  size : w.heap.size = w'.heap.size
  block : ∀ k, k ≠ b → w'.heap[k]? = w.heap[k]?

theorem One.refl (b : Nat) (w : World) : One b w w := ⟨rfl, rfl, rfl, rfl, fun _ _ => rfl⟩
theorem One.trans {b : Nat} {u v w : World} (h : One b u v) (k : One b v w) : One b u w :=
  ⟨k.os.trans h.os, k.tape.trans h.tape, k.output.trans h.output, h.size.trans k.size, fun i hi => (k.block i hi).trans (h.block i hi)⟩
theorem One.set (b o : Nat) (w : World) (v : Value) : One b w (w.setCell ⟨b, o, none⟩ v) :=
  ⟨rfl, rfl, rfl, by simp [World.setCell], fun k hk => Below.heap_setCell _ _ _ _ hk⟩
theorem One.drew {b : Nat} {u w : World} (h : One b u w) : One b u w.drew := ⟨h.os, h.tape, h.output, h.size, h.block⟩
theorem One.cell {b : Nat} {w w' : World} (h : One b w w') {p : Addr} (hp : p.block ≠ b) : w'.cell? p = w.cell? p := World.cell?_of_block (w := w) (h.block p.block hp)
theorem One.below {b B : Nat} {u w : World} (h : One b u w) (hB : B ≤ b) : Below B u w := ⟨h.os, h.tape, h.output, Nat.le_of_eq h.size, fun k hk => h.block k (by omega)⟩
theorem cell_in {w : World} {b o : Nat} {v : Value} (h : w.cell? ⟨b, o, none⟩ = some v) : b < w.heap.size := by
  rcases Nat.lt_or_ge b w.heap.size with h1 | h1
  · exact h1
  · simp [World.cell?, Array.getElem?_eq_none h1] at h
theorem Tab.one {b : Nat} {w w' : World} (hT : Tab w) (h : One b w w') (hb : b ≠ 1) : Tab w' := fun i hi => (h.cell (p := ⟨1, i, none⟩) (fun e => hb e.symm)).trans (hT i hi)
theorem Tab.below {w w' : World} (hT : Tab w) (h : Below w.heap.size w w') : Tab w' := fun i hi => (h.cell (p := ⟨1, i, none⟩) (cell_in (hT i hi))).trans (hT i hi)

theorem and15 (y : Nat) (h : y < 4294967296) : bits .and .u32 (y : Int) 15 = ((y % 16 : Nat) : Int) := by
  have := u32_and_nat y 15 h (by omega)
  rw [show ((15 : Nat) : Int) = 15 from rfl] at this
  rw [this]
  exact congrArg _ (Nat.and_two_pow_sub_one_eq_mod y 4)
theorem half_xor (y : Nat) (h : y < 4294967296) : bits .xor .u32 ((y : Int) / 16) (tabH (y % 16) : Int) = (step4 y : Int) := by
  have e : ((y : Int) / 16) = ((y / 16 : Nat) : Int) := by omega
  rw [e, u32_xor_nat _ _ (by omega) (tabH_lt ⟨y % 16, by omega⟩), step4_tab]

set_option maxRecDepth 100000 in
set_option maxHeartbeats 1000000 in
theorem take_any (b c x : Nat) (w : World) (hT : Tab w) (hb : b ≠ 1) (hc : w.cell? ⟨b, 0, none⟩ = some (.int .u32 (c : Int))) (hf : w.frozen? ⟨b, 0, none⟩ = false) (hc1 : c < 4294967296) (hx : x < 256) :
    Calls Tryd.prog 66 #[.pointer (some ⟨b, 0, none⟩), .int .u8 (x : Int)] w fun e w' => e = .returned (.tuple #[]) ∧
      w'.cell? ⟨b, 0, none⟩ = some (.int .u32 (stepB c x : Int)) ∧ w'.frozen? ⟨b, 0, none⟩ = false ∧ One b w w' := by
  have e1 := u32_xor_nat c x hc1 (by omega)
  have HT := Lib.hid hT
  have HE := Lib.hid (show stepB c x = step4 (step4 (c ^^^ x)) from rfl)
  have hy1 := xor_lt c x hc1 (by omega)
  generalize c ^^^ x = y at e1 HE hy1
  clear hT
  go_enter Tryd.func66, Tryd.ntmps66
  go_wp2
  have H1 := Lib.hid (One.set b 0 w (.int .u32 (y : Int)))
  have hc' : (w.setCell ⟨b, 0, none⟩ (.int .u32 (y : Int))).cell? ⟨b, 0, none⟩ = some (.int .u32 (y : Int)) := World.cell?_setCell_same _ _ _ hc
  have hf' : (w.setCell ⟨b, 0, none⟩ (.int .u32 (y : Int))).frozen? ⟨b, 0, none⟩ = false := by rw [World.frozen?_setCell]; exact hf
  generalize w.setCell ⟨b, 0, none⟩ (.int .u32 (y : Int)) = w1 at H1 hc' hf' ⊢
  have HT1 := Lib.hid (HT.out.one H1.out hb)
  have ea := and15 y hy1
  have ex := half_xor y hy1
  have hcell := HT1.out (y % 16) (by omega)
  have hr : ((y % 16 : Nat) : Int) < 16 := by omega
  have hz1 := step4_lt y hy1
  clear e1 hc hf
  generalize tabH (y % 16) = t at ex hcell
  generalize y % 16 = r at ea hr hcell
  generalize step4 y = z at HE ex hz1
  go_region
  have H2 := Lib.hid (H1.out.trans (One.set b 0 w1 (.int .u32 (z : Int))).drew)
  have hc2 : (w1.setCell ⟨b, 0, none⟩ (.int .u32 (z : Int))).drew.cell? ⟨b, 0, none⟩ = some (.int .u32 (z : Int)) := World.cell?_setCell_same _ _ _ hc'
  have hf2 : (w1.setCell ⟨b, 0, none⟩ (.int .u32 (z : Int))).drew.frozen? ⟨b, 0, none⟩ = false := (World.frozen?_setCell _ _ _ _).trans hf'
  generalize (w1.setCell ⟨b, 0, none⟩ (.int .u32 (z : Int))).drew = w2 at H2 hc2 hf2 ⊢
  have HT2 := Lib.hid (HT.out.one H2.out hb)
  clear ea hr hcell ex hc' hf'
  have ea := and15 z hz1
  have ex := half_xor z hz1
  have hcell := HT2.out (z % 16) (by omega)
  have hr : ((z % 16 : Nat) : Int) < 16 := by omega
  generalize tabH (z % 16) = t2 at ex hcell
  generalize z % 16 = r2 at ea hr hcell
  generalize step4 z = u at HE ex
  go_wp2
  go_region
  have H3 := Lib.hid (H2.out.trans (One.set b 0 w2 (.int .u32 (u : Int))).drew)
  have hc3 : (w2.setCell ⟨b, 0, none⟩ (.int .u32 (u : Int))).drew.cell? ⟨b, 0, none⟩ = some (.int .u32 (u : Int)) := World.cell?_setCell_same _ _ _ hc2
  have hf3 : (w2.setCell ⟨b, 0, none⟩ (.int .u32 (u : Int))).drew.frozen? ⟨b, 0, none⟩ = false := (World.frozen?_setCell _ _ _ _).trans hf2
  generalize (w2.setCell ⟨b, 0, none⟩ (.int .u32 (u : Int))).drew = w3 at H3 hc3 hf3 ⊢
  go_end0
  exact ⟨rfl, by rw [HE.out]; exact hc3, hf3, H3.out⟩
end Go.Proofs.YtacdbfaoeioflaaDoor
