/-
  Lists of blocks that came in, opened to their cells.
-/
import Derived.Test.YtacdbfaoeioflaaGreatDoorOpenB
import Derived.Test.YtacdbfaoeioflaaGreatDoorSolo2
namespace Go.Proofs.YtacdbfaoeioflaaGreatDoor
open Go.ChangeShapes Go.WideShapes Go.RowKit Go.Deep

set_option maxRecDepth 100000 in
/-- The list of blocks that an argument is. -/
theorem open_bks {H : Type} {enc : TypeId × Value → H} {W : World} {held : Bool} {spare : Nat → Bool} {v : Value} {d : DataW H} {p : List MemPlace} (hv : ∃ a len cap, v = .slice a len cap) (h : DataW.Trod enc Tryz.prog W 0 spare held 50 v d p) :
    ∃ A n c bs, v = .slice A n c ∧ n ≤ 9223372036854775807 ∧ BIn W A n bs := by
  obtain ⟨a0, len, cap, rfl⟩ := hv
  obtain ⟨fuel, hf⟩ := h
  have hf' : DataW.trod enc Tryz.prog W 0 spare held fuel 50 [.slice a0 len cap] = some (d, p) := by simpa [Value.cells] using hf
  have zc : Tryz.prog.cellsOf 37 = 3 := by kernel_rfl
  rcases open_slice Tryz.underlying50 hf' with ⟨hc, _⟩ | ⟨a, len', cap', m, n, D, Pl, hcs, _, hl, hm, hmm, _, hi⟩
  · simp only [List.cons.injEq, Value.slice.injEq, and_true] at hc
    obtain ⟨rfl, rfl, rfl⟩ := hc
    exact ⟨none, 0, 0, fun _ => Bk.zero, rfl, by omega, ⟨fun i hi => by omega, fun i hi => by omega⟩⟩
  · simp only [List.cons.injEq, Value.slice.injEq, and_true] at hcs
    obtain ⟨rfl, rfl, rfl⟩ := hcs
    have hlm : len ≤ m := by rw [hmm]; split <;> omega
    have key : ∀ i, ∃ o : Bk, i < len → (∃ b off, some a = some ⟨b, off, none⟩ ∧ b < W.heap.size ∧ BAt W b (off + i * 3) o) ∧ i64 o.id := by
      intro i
      by_cases hlt : i < len
      · obtain ⟨cs', hc, ht'⟩ := hi i (by omega)
        obtain ⟨o, ho, hoi, -⟩ := bk_cells ht'
        rw [zc] at hc
        obtain ⟨_, hcl, hat⟩ := World.cells?_some hc
        subst ho
        obtain ⟨b, off, spot⟩ := a
        have hspot : spot = none := by
          obtain ⟨cs0, hc0, _⟩ := hi 0 (by omega)
          rw [zc] at hc0
          obtain ⟨_, hcl0, hat0⟩ := World.cells?_some hc0
          have h0 := (hat0 0 (by omega)).trans (List.getElem?_eq_getElem (by omega))
          simpa [Addr.add] using World.cell?_spot h0
        subst hspot
        refine ⟨o, fun _ => ⟨⟨b, off, rfl, ?_⟩, hoi⟩⟩
        have hx : ∀ j, j < 3 → W.cell? ⟨b, off + i * 3 + j, none⟩ = o.cells.toList[j]? := fun j hj => by
          have := hat j hj
          rw [Go.WideShapes.add_plain, Go.WideShapes.add_plain] at this
          exact this
        exact ⟨World.block_lt_of_cell? W _ (hx 0 (by omega)), ⟨hx 0 (by omega), hx 1 (by omega), hx 2 (by omega)⟩⟩
      · exact ⟨Bk.zero, fun h => absurd h hlt⟩
    obtain ⟨f, hf⟩ := Classical.skolem.1 key
    exact ⟨some a, len, cap, f, rfl, by unfold maxLen at hm; omega, ⟨fun i hi => (hf i hi).1, fun i hi => (hf i hi).2⟩⟩
end Go.Proofs.YtacdbfaoeioflaaGreatDoor
