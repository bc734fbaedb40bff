/-
  Lists of lists of votes that came in, opened to their cells.
-/
import Derived.Test.YtacbodojbekeeaaDoorStp10
namespace Go.Proofs.YtacbodojbekeeaaDoor
open Go.ChangeShapes Go.WideShapes Go.RowKit Go.Deep

/-- The list of lists of votes at A: row i, of L i votes, lies at B i; z tells its votes. -/
def Sets (w : World) (A : Option Addr) (n : Nat) (B : Nat → Option Addr) (L C : Nat → Nat) (z : Nat → Nat → V) : Prop :=
  ∀ i, i < n → (∃ g o, A = some ⟨g, o, none⟩ ∧ g < w.heap.size ∧ w.cell? ⟨g, o + i, none⟩ = some (.slice (B i) (L i) (C i))) ∧ L i ≤ 9223372036854775807 ∧
    ∀ k, k < L i → ∃ g o, B i = some ⟨g, o, none⟩ ∧ g < w.heap.size ∧ VAt w g (o + k * 3) (z i k)
theorem Sets.below {w w' : World} {A : Option Addr} {n : Nat} {B : Nat → Option Addr} {L C : Nat → Nat} {z : Nat → Nat → V} (h : Sets w A n B L C z) (hb : Below w.heap.size w w') : Sets w' A n B L C z := fun i hi => by
  obtain ⟨⟨g, o, e, hg, hc⟩, hL, hz⟩ := h i hi
  refine ⟨⟨g, o, e, Nat.lt_of_lt_of_le hg hb.size, (hb.cell (p := ⟨g, o + i, none⟩) hg).trans hc⟩, hL, fun k hk => ?_⟩
  obtain ⟨g', o', e', hg', hv⟩ := hz k hk
  exact ⟨g', o', e', Nat.lt_of_lt_of_le hg' hb.size, hv.below hb hg'⟩
theorem addr_plain {W : World} {a : Addr} {v : Value} (h : W.cell? a = some v) : a = ⟨a.block, a.off, none⟩ := by
  obtain ⟨b, o, s⟩ := a
  have : s = none := World.cell?_spot h
  subst this
  rfl
set_option maxRecDepth 100000 in
/-- The row of votes that a slice in memory is. -/
theorem open_row {H : Type} {enc : TypeId × Value → H} {W : World} {held : Bool} {spare : Nat → Bool} {fuel : Nat} {v : Value} {x : DataW H × List MemPlace} (h : DataW.trod enc Tryd.prog W 0 spare held fuel 36 [v] = some x) :
    ∃ B len cap, ∃ z : Nat → V, v = .slice B len cap ∧ len ≤ 9223372036854775807 ∧ ∀ k, k < len → ∃ g o, B = some ⟨g, o, none⟩ ∧ g < W.heap.size ∧ VAt W g (o + k * 3) (z k) := by
  have zc : Tryd.prog.cellsOf 32 = 3 := by kernel_rfl
  obtain ⟨d, p⟩ := x
  rcases open_slice Tryd.underlying36 h with ⟨hc, _⟩ | ⟨a, len, cap, m, n, D, Pl, hcs, _, hl, hm, hmm, _, hi⟩
  · simp only [List.cons.injEq, and_true] at hc
    exact ⟨none, 0, 0, fun _ => V.zero, hc, by omega, fun k hk => by omega⟩
  · simp only [List.cons.injEq, and_true] at hcs
    have hlm : len ≤ m := by rw [hmm]; split <;> omega
    have key : ∀ i, ∃ o : V, i < len → ∃ b off, some a = some ⟨b, off, none⟩ ∧ b < W.heap.size ∧ VAt W b (off + i * 3) o := by
      intro i
      by_cases hlt : i < len
      · obtain ⟨cs', hc, ht'⟩ := hi i (by omega)
        obtain ⟨o, ho, -⟩ := vt_cells ht'
        rw [zc] at hc
        obtain ⟨_, hcl, hat⟩ := World.cells?_some hc
        subst ho
        have ha : a = ⟨a.block, a.off, none⟩ := by
          obtain ⟨cs0, hc0, _⟩ := hi 0 (by omega)
          rw [zc] at hc0
          obtain ⟨_, hcl0, hat0⟩ := World.cells?_some hc0
          have h0 := (hat0 0 (by omega)).trans (List.getElem?_eq_getElem (by omega))
          exact addr_plain (by simpa [Addr.add] using h0)
        rw [ha] at hat
        refine ⟨o, fun _ => ⟨a.block, a.off, by rw [← ha], ?_⟩⟩
        have hx : ∀ j, j < 3 → W.cell? ⟨a.block, a.off + i * 3 + j, none⟩ = o.cells.toList[j]? := fun j hj => by
          have := hat j hj
          rw [Go.WideShapes.add_plain, Go.WideShapes.add_plain] at this
          exact this
        exact ⟨World.block_lt_of_cell? W ⟨a.block, _, none⟩ (hx 0 (by omega)), ⟨hx 0 (by omega), hx 1 (by omega), hx 2 (by omega)⟩⟩
      · exact ⟨V.zero, fun h => absurd h hlt⟩
    obtain ⟨f, hf⟩ := Classical.skolem.1 key
    exact ⟨some a, len, cap, f, hcs, by unfold maxLen at hm; omega, fun k hk => hf k hk⟩
set_option maxRecDepth 100000 in
/-- The list of lists that an argument is. -/
theorem open_sets {H : Type} {enc : TypeId × Value → H} {W : World} {held : Bool} {spare : Nat → Bool} {v : Value} {d : DataW H} {p : List MemPlace} (hv : ∃ a len cap, v = .slice a len cap) (h : DataW.Trod enc Tryd.prog W 0 spare held 59 v d p) :
    ∃ A n c, ∃ s : (Nat → Option Addr) × (Nat → Nat) × (Nat → Nat) × (Nat → Nat → V), v = .slice A n c ∧ n ≤ 9223372036854775807 ∧ Sets W A n s.1 s.2.1 s.2.2.1 s.2.2.2 := by
  obtain ⟨a0, len, cap, rfl⟩ := hv
  obtain ⟨fuel, hf⟩ := h
  have hf' : DataW.trod enc Tryd.prog W 0 spare held fuel 59 [.slice a0 len cap] = some (d, p) := by simpa [Value.cells] using hf
  have zc : Tryd.prog.cellsOf 36 = 1 := by kernel_rfl
  rcases open_slice Tryd.underlying59 hf' with ⟨hc, _⟩ | ⟨a, len', cap', m, n, D, Pl, hcs, _, hl, hm, hmm, _, hi⟩
  · simp only [List.cons.injEq, Value.slice.injEq, and_true] at hc
    obtain ⟨rfl, rfl, rfl⟩ := hc
    exact ⟨none, 0, 0, (fun _ => none, fun _ => 0, fun _ => 0, fun _ _ => V.zero), rfl, by omega, fun i hi => by omega⟩
  · simp only [List.cons.injEq, Value.slice.injEq, and_true] at hcs
    obtain ⟨rfl, rfl, rfl⟩ := hcs
    have hlm : len ≤ m := by rw [hmm]; split <;> omega
    have key : ∀ i, ∃ s : Option Addr × Nat × Nat × (Nat → V), i < len → (∃ g o, some a = some ⟨g, o, none⟩ ∧ g < W.heap.size ∧ W.cell? ⟨g, o + i, none⟩ = some (.slice s.1 s.2.1 s.2.2.1)) ∧ s.2.1 ≤ 9223372036854775807 ∧
        ∀ k, k < s.2.1 → ∃ g o, s.1 = some ⟨g, o, none⟩ ∧ g < W.heap.size ∧ VAt W g (o + k * 3) (s.2.2.2 k) := by
      intro i
      by_cases hlt : i < len
      · obtain ⟨cs', hc, ht'⟩ := hi i (by omega)
        rw [zc] at hc
        obtain ⟨_, hcl, hat⟩ := World.cells?_some hc
        match cs', hcl with
        | [u], _ =>
          obtain ⟨B, L, C, z, rfl, hL, hz⟩ := open_row ht'
          have ha : a = ⟨a.block, a.off, none⟩ := by
            obtain ⟨cs0, hc0, _⟩ := hi 0 (by omega)
            rw [zc] at hc0
            obtain ⟨_, hcl0, hat0⟩ := World.cells?_some hc0
            have h0 := (hat0 0 (by omega)).trans (List.getElem?_eq_getElem (by omega))
            exact addr_plain (by simpa [Addr.add] using h0)
          rw [ha] at hat
          have h0 := hat 0 (by omega)
          rw [Go.WideShapes.add_plain, Go.WideShapes.add_plain] at h0
          have h1 : W.cell? ⟨a.block, a.off + i, none⟩ = some (.slice B L C) := by simpa using h0
          exact ⟨(B, L, C, z), fun _ => ⟨⟨a.block, a.off, by rw [← ha], World.block_lt_of_cell? W ⟨a.block, _, none⟩ h1, h1⟩, hL, hz⟩⟩
      · exact ⟨(none, 0, 0, fun _ => V.zero), fun h => absurd h hlt⟩
    obtain ⟨f, hf⟩ := Classical.skolem.1 key
    exact ⟨some a, len, cap, (fun i => (f i).1, fun i => (f i).2.1, fun i => (f i).2.2.1, fun i => (f i).2.2.2), rfl, by unfold maxLen at hm; omega, fun i hi => hf i hi⟩
end Go.Proofs.YtacbodojbekeeaaDoor
