/-
  What the laws of layer 5 are handed, opened to its cells: histories, steps, bytes.
-/
import Derived.Test.YtdkkoeiceaolnaaRows
import Derived.Test.YtdkkoeiceaolnaaHist
import Derived.Deep.Matrix
import Derived.Carry
import Derived.ProofKit
import Derived.Lib.SmallJoins
namespace Go.Proofs.Ytdkkoeiceaolnaa
open Go.ChangeShapes Go.WideShapes Go.RowKit Go.Deep

theorem laidOutK : laidOutB Try.prog = true := by kernel_rfl
theorem ownK : ownKnob Try.prog.godebug = none := by kernel_rfl
/-- Where a cell is there is no spot. -/
theorem spot_none {w : World} {a : Addr} {v : Value} (h : w.cell? a = some v) : a = ⟨a.block, a.off, none⟩ := by
  obtain ⟨b, o, s⟩ := a
  have : s = none := World.cell?_spot h
  subst this
  rfl
theorem add_none (b o n : Nat) : (⟨b, o, none⟩ : Addr).add n = ⟨b, o + n, none⟩ := by
  unfold Addr.add; split
  · subst_vars; rfl
  · rfl
theorem bounds_u32 {n : Int} (h : (Lit.int .u32 n).wf = true) : 0 ≤ n ∧ n ≤ 4294967295 := by
  simp [Lit.wf, IntKind.min, IntKind.max, IntKind.signed, IntKind.bits] at h
  omega
/-- The row of numbers that a list is. -/
theorem line_of {w : World} {A : Option Addr} {L C : Nat} {zs : List Int} (h1 : L ≤ C) (h2 : C ≤ maxLen) (h3 : A = none → C = 0) (h4 : ∀ a', A = some a' → ∀ c, c < C → w.cell? (a'.add c) = some (.int .i64 (zs.getD c 0))) :
    Line w A L (fun c => zs.getD c 0) (fun c => if c < L then cl (zs.getD c 0) 0 1048576 else 0) := by
  refine ⟨by unfold maxLen at h2; omega, fun c hc => ?_, fun c hc => by simp [hc], fun c hc => by simp; omega⟩
  cases A with
  | none => have := h3 rfl; omega
  | some a =>
    have h0 := h4 a rfl 0 (by omega)
    have ha : a = ⟨a.block, a.off, none⟩ := spot_none (by simpa [Addr.add] using h0)
    refine ⟨a.block, a.off, by rw [← ha], ?_⟩
    have := h4 a rfl c (by omega)
    rw [ha, add_none] at this
    exact this
/-- The history that an argument is. -/
theorem open_hist {H : Type} {enc : TypeId × Value → H} {W : World} {held : Bool} {v : Value} {d : DataW H} {p : List MemPlace} (hv : ∃ a len cap, v = .slice a len cap) (h : DataW.Trod enc Try.prog W 0 (fun _ => true) held 37 v d p) :
    ∃ A n c T, v = .slice A n c ∧ n ≤ 9223372036854775807 ∧ n ≤ c ∧ Hist W A n T := by
  obtain ⟨a0, len, cap, rfl⟩ := hv
  obtain ⟨fuel, hf⟩ := h
  have hf' : DataW.trod enc Try.prog W 0 (fun _ => true) held fuel 37 [.slice a0 len cap] = some (d, p) := by simpa [Value.cells] using hf
  rcases open_int_rows Try.underlying37 Try.underlying28 Try.underlying3 (by kernel_rfl) (by kernel_rfl) hf' with ⟨hc, _⟩ | ⟨a, n, c, A, L, C, Z, hcs, _, hl, hm, _, hx⟩
  · simp only [List.cons.injEq, Value.slice.injEq, and_true] at hc
    obtain ⟨rfl, rfl, rfl⟩ := hc
    exact ⟨none, 0, 0, fun _ _ => 0, rfl, by omega, by omega, fun r hr => by omega⟩
  · simp only [List.cons.injEq, Value.slice.injEq, and_true] at hcs
    obtain ⟨rfl, rfl, rfl⟩ := hcs
    refine ⟨some a, len, cap, fun r c => if c < L r then cl ((Z r).getD c 0) 0 1048576 else 0, rfl, by unfold maxLen at hm; omega, hl, fun r hr => ?_⟩
    have h0 := (hx 0 (by omega)).1
    have ha : a = ⟨a.block, a.off, none⟩ := spot_none (by simpa [Addr.add] using h0)
    obtain ⟨e1, e2, e3, _, _, e6, e7⟩ := hx r (by omega)
    rw [ha, add_none] at e1
    exact ⟨a.block, a.off, A r, L r, C r, fun c => (Z r).getD c 0, by rw [← ha], e1, line_of e2 e3 e6 (fun a' ha' => (e7 a' ha').2)⟩
/-- The bytes that an argument is. -/
theorem open_bytes5 {H : Type} {enc : TypeId × Value → H} {W : World} {held : Bool} {v : Value} {d : DataW H} {p : List MemPlace} (hv : ∃ a len cap, v = .slice a len cap) (h : DataW.Trod enc Try.prog W 0 (fun _ => true) held 46 v d p) :
    ∃ A n c z, v = .slice A n c ∧ n ≤ 9223372036854775807 ∧ Bts W A n z := by
  obtain ⟨a0, len, cap, rfl⟩ := hv
  obtain ⟨fuel, hf⟩ := h
  have hf' : DataW.trod enc Try.prog W 0 (fun _ => true) held fuel 46 [.slice a0 len cap] = some (d, p) := by simpa [Value.cells] using hf
  rcases open_ints Try.underlying46 Try.underlying5 (by kernel_rfl) hf' with ⟨hc, _⟩ | ⟨a, n, c, zs, hcs, _, hl, hm, hz, _, hx, hw⟩
  · simp only [List.cons.injEq, Value.slice.injEq, and_true] at hc
    obtain ⟨rfl, rfl, rfl⟩ := hc
    exact ⟨none, 0, 0, fun _ => 0, rfl, by omega, fun i hi => by omega⟩
  · simp only [List.cons.injEq, Value.slice.injEq, and_true] at hcs
    obtain ⟨rfl, rfl, rfl⟩ := hcs
    simp only [if_true] at hz
    refine ⟨some a, len, cap, fun i => zs.getD i 0, rfl, by unfold maxLen at hm; omega, fun i hi => ?_⟩
    have h0 := hx 0 (by omega)
    have ha : a = ⟨a.block, a.off, none⟩ := spot_none (by simpa [Addr.add] using h0)
    have h1 := hx i (by omega)
    rw [ha, add_none] at h1
    have h2 := bounds_u8 (hw (zs.getD i 0) (by rw [List.getD_eq_getElem?_getD, List.getElem?_eq_getElem (show i < zs.length by omega)]; exact List.getElem_mem _))
    exact ⟨a.block, a.off, by rw [← ha], h1, h2.1, h2.2⟩
/-- The ticks that an argument is. -/
theorem open_steps {H : Type} {enc : TypeId × Value → H} {W : World} {held : Bool} {spare : Nat → Bool} {v : Value} {d : DataW H} {p : List MemPlace} (hv : ∃ a len cap, v = .slice a len cap) (h : DataW.Trod enc Try.prog W 0 spare held 22 v d p) :
    ∃ A n c f g, v = .slice A n c ∧ n ≤ 9223372036854775807 ∧ Tks W A n f g := by
  obtain ⟨a0, len, cap, rfl⟩ := hv
  obtain ⟨fuel, hf⟩ := h
  have hf' : DataW.trod enc Try.prog W 0 spare held fuel 22 [.slice a0 len cap] = some (d, p) := by simpa [Value.cells] using hf
  have zc : Try.prog.cellsOf 34 = 2 := by kernel_rfl
  rcases open_slice Try.underlying22 hf' with ⟨hc, _⟩ | ⟨a, len', cap', m, n, D, Pl, hcs, _, hl, hm, hmm, _, hi⟩
  · simp only [List.cons.injEq, Value.slice.injEq, and_true] at hc
    obtain ⟨rfl, rfl, rfl⟩ := hc
    exact ⟨none, 0, 0, fun _ => 0, fun _ => 0, rfl, by omega, fun i hi => by omega⟩
  · simp only [List.cons.injEq, Value.slice.injEq, and_true] at hcs
    obtain ⟨rfl, rfl, rfl⟩ := hcs
    have hlm : len ≤ m := by rw [hmm]; split <;> omega
    have key : ∀ i, ∃ o : Int × Int, i < len → ∃ b off, some a = some ⟨b, off, none⟩ ∧ W.cell? ⟨b, off + i * 2, none⟩ = some (.int .i64 o.1) ∧ W.cell? ⟨b, off + i * 2 + 1, none⟩ = some (.int .i64 o.2) := by
      intro i
      by_cases hlt : i < len
      · obtain ⟨cs', hc, ht'⟩ := hi i (by omega)
        obtain ⟨ys, n', _, _, hlen, hyl, hf⟩ := DataW.trod_struct Try.underlying34 ht'
        have hlen : cs'.length = 2 := hlen.trans (by kernel_rfl)
        rw [zc] at hc
        obtain ⟨_, hcl, hat⟩ := World.cells?_some hc
        match cs', hlen with
        | [c0, c1], _ =>
          have hy : ∀ j, j < 2 → ∃ y, ys[j]? = some y := fun j hj => ⟨_, List.getElem?_eq_getElem (by rw [hyl]; exact hj)⟩
          obtain ⟨y0, g0⟩ := hy 0 (by omega)
          obtain ⟨y1, g1⟩ := hy 1 (by omega)
          have t0 : DataW.trod enc Try.prog W 0 spare held n' 3 (([c0, c1].drop 0).take (Try.prog.cellsOf 3)) = some y0 := (hf 0 _ rfl).trans g0
          have t1 : DataW.trod enc Try.prog W 0 spare held n' 3 (([c0, c1].drop 1).take (Try.prog.cellsOf 3)) = some y1 := (hf 1 _ rfl).trans g1
          have z : Try.prog.cellsOf 3 = 1 := by kernel_rfl
          simp only [z, List.drop_succ_cons, List.drop_zero, List.take_succ_cons, List.take_zero] at t0 t1
          obtain ⟨q0, e0, _, w0⟩ := DataW.trod_int Try.underlying3 t0
          obtain ⟨q1, e1, _, w1⟩ := DataW.trod_int Try.underlying3 t1
          simp only [List.cons.injEq, and_true] at e0 e1
          subst e0 e1
          have h0 : W.cell? ((a.add (i * 2)).add 0) = some (.int .i64 q0) := hat 0 (by omega)
          have h1 : W.cell? ((a.add (i * 2)).add 1) = some (.int .i64 q1) := hat 1 (by omega)
          have hspot : a = ⟨a.block, a.off, none⟩ := by
            obtain ⟨cs0, hc0, ht0⟩ := hi 0 (by omega)
            rw [zc] at hc0
            obtain ⟨_, hcl0, hat0⟩ := World.cells?_some hc0
            have h0 := (hat0 0 (by omega)).trans (List.getElem?_eq_getElem (by omega))
            exact spot_none (by simpa [Addr.add] using h0)
          rw [hspot, add_none, add_none] at h0 h1
          exact ⟨(q0, q1), fun _ => ⟨a.block, a.off, by rw [← hspot], h0, h1⟩⟩
      · exact ⟨(0, 0), fun h => absurd h hlt⟩
    obtain ⟨o, ho⟩ := Classical.skolem.1 key
    exact ⟨some a, len, cap, fun i => (o i).1, fun i => (o i).2, rfl, by unfold maxLen at hm; omega, fun i hi => ho i hi⟩
end Go.Proofs.Ytdkkoeiceaolnaa
