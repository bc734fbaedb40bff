/-
  Lists of steps, lists of texts and numbers that came in, opened to their cells.
-/
import Derived.Test.YtodllmgcoclnmaaRows
import Derived.Test.YtodllmgcoclnmaaBoth
import Derived.Deep.Slices
import Derived.Deep.Fields
import Derived.Carry
import Derived.ProofKit
import Derived.SliceStrings
import Derived.Lib.SmallJoins
namespace Go.Proofs.Ytodllmgcoclnmaa
open Go.ChangeShapes Go.WideShapes Go.RowKit Go.Deep

theorem laidOutK : laidOutB Try.prog = true := by kernel_rfl
theorem ownK : ownKnob Try.prog.godebug = none := by kernel_rfl

theorem wf_u64 {x : Int} (h : (Lit.int .u64 x).wf = true) : ∃ n : Nat, x = (n : Int) ∧ n < 18446744073709551616 := by
  simp only [Lit.wf, Bool.and_eq_true, decide_eq_true_eq] at h
  have e1 : IntKind.u64.min = 0 := by decide
  have e2 : IntKind.u64.max = 18446744073709551615 := by decide
  rw [e1, e2] at h
  exact ⟨x.toNat, by omega, by omega⟩
theorem wf_u8 {x : Int} (h : (Lit.int .u8 x).wf = true) : ∃ n : Nat, x = (n : Int) ∧ n < 256 := by
  simp only [Lit.wf, Bool.and_eq_true, decide_eq_true_eq] at h
  have e1 : IntKind.u8.min = 0 := by decide
  have e2 : IntKind.u8.max = 255 := by decide
  rw [e1, e2] at h
  exact ⟨x.toNat, by omega, by omega⟩
theorem wf_i64 {x : Int} (h : (Lit.int .i64 x).wf = true) : x < 9223372036854775808 := by
  simp only [Lit.wf, Bool.and_eq_true, decide_eq_true_eq] at h
  have e2 : IntKind.i64.max = 9223372036854775807 := by decide
  rw [e2] at h
  omega

/-- A step's cells, as a reading finds them. -/
theorem step_cells {H : Type} {enc : TypeId × Value → H} {w : World} {base n : Nat} {spare : Nat → Bool} {held : Bool} {cs : List Value} {x : DataW H × List MemPlace} (h : DataW.trod enc Try.prog w base spare held n 35 cs = some x) :
    ∃ o : Stp, cs = o.cells.toList ∧ o.i < 9223372036854775808 ∧ o.s.size ≤ 9223372036854775807 ∧ o.keep < 18446744073709551616 := by
  obtain ⟨ys, n', _, _, hlen, hyl, hf⟩ := DataW.trod_struct Try.underlying35 h
  have hlen : cs.length = 4 := hlen.trans (by kernel_rfl)
  match cs, hlen with
  | [c0, c1, c2, c3], _ =>
    have hy : ∀ j, j < 4 → ∃ y, ys[j]? = some y := fun j hj => ⟨_, List.getElem?_eq_getElem (by rw [hyl]; exact hj)⟩
    obtain ⟨y0, g0⟩ := hy 0 (by omega)
    obtain ⟨y1, g1⟩ := hy 1 (by omega)
    obtain ⟨y2, g2⟩ := hy 2 (by omega)
    obtain ⟨y3, g3⟩ := hy 3 (by omega)
    have t0 : DataW.trod enc Try.prog w base spare held n' 3 (([c0, c1, c2, c3].drop 0).take (Try.prog.cellsOf 3)) = some y0 := (hf 0 _ rfl).trans g0
    have t1 : DataW.trod enc Try.prog w base spare held n' 3 (([c0, c1, c2, c3].drop 1).take (Try.prog.cellsOf 3)) = some y1 := (hf 1 _ rfl).trans g1
    have t2 : DataW.trod enc Try.prog w base spare held n' 9 (([c0, c1, c2, c3].drop 2).take (Try.prog.cellsOf 9)) = some y2 := (hf 2 _ rfl).trans g2
    have t3 : DataW.trod enc Try.prog w base spare held n' 31 (([c0, c1, c2, c3].drop 3).take (Try.prog.cellsOf 31)) = some y3 := (hf 3 _ rfl).trans g3
    have z : Try.prog.cellsOf 3 = 1 := by kernel_rfl
    have zs : Try.prog.cellsOf 9 = 1 := by kernel_rfl
    have zu : Try.prog.cellsOf 31 = 1 := by kernel_rfl
    simp only [z, zs, zu, List.drop_succ_cons, List.drop_zero, List.take_succ_cons, List.take_zero] at t0 t1 t2 t3
    obtain ⟨q0, e0, _, w0⟩ := DataW.trod_int Try.underlying3 t0
    obtain ⟨q1, e1, _, w1⟩ := DataW.trod_int Try.underlying3 t1
    obtain ⟨q2, e2, _, w2⟩ := DataW.trod_string Try.underlying9 t2
    obtain ⟨q3, e3, _, w3⟩ := DataW.trod_int Try.underlying31 t3
    simp only [List.cons.injEq, and_true] at e0 e1 e2 e3
    obtain ⟨k, rfl, hk⟩ := wf_u64 w3
    subst e0 e1 e2 e3
    exact ⟨⟨q0, q1, q2, k⟩, rfl, wf_i64 w1, by unfold maxLen at w2; show q2.size ≤ _; omega, hk⟩

/-- The list of steps that an argument is. -/
theorem open_steps {H : Type} {enc : TypeId × Value → H} {W : World} {held : Bool} {spare : Nat → Bool} {v : Value} {d : DataW H} {p : List MemPlace} (hv : ∃ a len cap, v = .slice a len cap) (h : DataW.Trod enc Try.prog W 0 spare held 22 v d p) :
    ∃ A n c st, v = .slice A n c ∧ n ≤ 9223372036854775807 ∧ Steps W A n st := by
  obtain ⟨a0, len, cap, rfl⟩ := hv
  obtain ⟨fuel, hf⟩ := h
  have hf' : DataW.trod enc Try.prog W 0 spare held fuel 22 [.slice a0 len cap] = some (d, p) := by simpa [Value.cells] using hf
  have zc : Try.prog.cellsOf 35 = 4 := by kernel_rfl
  rcases open_slice Try.underlying22 hf' with ⟨hc, _⟩ | ⟨a, len', cap', m, n, D, Pl, hcs, _, hl, hm, hmm, _, hi⟩
  · simp only [List.cons.injEq, Value.slice.injEq, and_true] at hc
    obtain ⟨rfl, rfl, rfl⟩ := hc
    exact ⟨none, 0, 0, fun _ => ⟨0, 0, ⟨#[]⟩, 0⟩, rfl, by omega, fun i hi => by omega⟩
  · simp only [List.cons.injEq, Value.slice.injEq, and_true] at hcs
    obtain ⟨rfl, rfl, rfl⟩ := hcs
    have hlm : len ≤ m := by rw [hmm]; split <;> omega
    have key : ∀ i, ∃ o, i < len → ∃ b off, some a = some ⟨b, off, none⟩ ∧ SAt W b (off + i * 4) o := by
      intro i
      by_cases hlt : i < len
      · obtain ⟨cs', hc, ht'⟩ := hi i (by omega)
        obtain ⟨o, ho, hd⟩ := step_cells ht'
        rw [zc] at hc
        obtain ⟨_, hcl, hat⟩ := World.cells?_some hc
        subst ho
        obtain ⟨b, off, spot⟩ := a
        have hspot : spot = none := by
          obtain ⟨cs0, hc0, _⟩ := hi 0 (by omega)
          rw [zc] at hc0
          obtain ⟨_, hcl0, hat0⟩ := World.cells?_some hc0
          have h0 := (hat0 0 (by omega)).trans (List.getElem?_eq_getElem (by omega))
          simpa [Addr.add] using World.cell?_spot h0
        subst hspot
        refine ⟨o, fun _ => ⟨b, off, rfl, ?_⟩⟩
        have hx : ∀ j, j < 4 → W.cell? ⟨b, off + i * 4 + j, none⟩ = o.cells.toList[j]? := fun j hj => by
          have := hat j hj
          rw [Go.WideShapes.add_plain, Go.WideShapes.add_plain] at this
          exact this
        exact ⟨hx 0 (by omega), hx 1 (by omega), hx 2 (by omega), hx 3 (by omega), hd.1, hd.2.1, hd.2.2⟩
      · exact ⟨⟨0, 0, ⟨#[]⟩, 0⟩, fun h => absurd h hlt⟩
    obtain ⟨f, hf⟩ := Classical.skolem.1 key
    exact ⟨some a, len, cap, f, rfl, by unfold maxLen at hm; omega, fun i hi => hf i hi⟩

/-- The list of texts that an argument is. -/
def Strs (w : World) (A : Option Addr) (n : Nat) (tx : Nat → ByteArray) : Prop := ∀ i, i < n → ∃ b off, A = some ⟨b, off, none⟩ ∧ w.cell? ⟨b, off + i, none⟩ = some (.string (tx i)) ∧ (tx i).size ≤ 9223372036854775807
theorem open_texts {H : Type} {enc : TypeId × Value → H} {W : World} {held : Bool} {spare : Nat → Bool} {v : Value} {d : DataW H} {p : List MemPlace} (hv : ∃ a len cap, v = .slice a len cap) (h : DataW.Trod enc Try.prog W 0 spare held 29 v d p) :
    ∃ A n c tx, v = .slice A n c ∧ n ≤ 9223372036854775807 ∧ Strs W A n tx := by
  obtain ⟨a0, len, cap, rfl⟩ := hv
  obtain ⟨fuel, hf⟩ := h
  have hf' : DataW.trod enc Try.prog W 0 spare held fuel 29 [.slice a0 len cap] = some (d, p) := by simpa [Value.cells] using hf
  rcases open_strings Try.underlying29 Try.underlying9 (by kernel_rfl) hf' with ⟨hc, _⟩ | ⟨a, len', cap', ss, hcs, _, hl, hm, hlen, _, hi, hz⟩
  · simp only [List.cons.injEq, Value.slice.injEq, and_true] at hc
    obtain ⟨rfl, rfl, rfl⟩ := hc
    exact ⟨none, 0, 0, fun _ => ⟨#[]⟩, rfl, by omega, fun i hi => by omega⟩
  · simp only [List.cons.injEq, Value.slice.injEq, and_true] at hcs
    obtain ⟨rfl, rfl, rfl⟩ := hcs
    have hlm : len ≤ ss.length := by rw [hlen]; split <;> omega
    refine ⟨some a, len, cap, fun i => ss.getD i ByteArray.empty, rfl, by unfold maxLen at hm; omega, fun i hlt => ?_⟩
    have hc := hi i (by omega)
    obtain ⟨b, off, spot⟩ := a
    have hspot : spot = none := by simpa [Addr.add] using World.cell?_spot (hi 0 (by omega))
    subst hspot
    refine ⟨b, off, rfl, by rw [Go.WideShapes.add_plain] at hc; exact hc, ?_⟩
    have := hz (ss.getD i ByteArray.empty) (by rw [List.getD_eq_getElem?_getD, List.getElem?_eq_getElem (show i < ss.length by omega)]; exact List.getElem_mem _)
    unfold maxLen at this
    omega
end Go.Proofs.Ytodllmgcoclnmaa
