/-
  What an argument is, opened to its cells: a block, rows of bytes and of numbers (two listed variables).

  What a server answers to an epoch and to a read, as plain data; what a server knows behind a crash.
-/
import Derived.Test.YtmmpknfkncgjpaaGreatDoorM18
import Derived.Test.YtmmpknfkncgjpaaGreatDoorM26
import Derived.Test.YtmmpknfkncgjpaaGreatDoorM47
import Derived.Test.YtmmpknfkncgjpaaGreatDoorM41
import Derived.Deep.Slices
import Derived.Deep.Fields
import Derived.Carry
import Derived.ProofKit
import Derived.Lib.SmallJoins
namespace Go.Proofs.YtmmpknfkncgjpaaGreatDoor
open Go.ChangeShapes Go.WideShapes Go.RowKit Go.Deep

theorem open_row {H : Type} {enc : TypeId × Value → H} {W : World} {base : Nat} {held : Bool} {spare : Nat → Bool} {α : Type} [Inhabited α] {t e : TypeId} {z : Nat} {cells : α → List Value} (ht : Tryz.prog.underlying t = some (.slice e)) (hz : Tryz.prog.cellsOf e = z) (hz0 : 0 < z)
    (hc : ∀ n cs x, DataW.trod enc Tryz.prog W base spare held n e cs = some x → ∃ o : α, cs = cells o) {fuel : Nat} {cv : Value} {x : DataW H × List MemPlace} (h : DataW.trod enc Tryz.prog W base spare held fuel t [cv] = some x) :
    ∃ (A : Option Addr) (l : List α) (cap : Nat), cv = .slice A l.length cap ∧ l.length ≤ 9223372036854775807 ∧ ∀ i o, l[i]? = some o → ∃ g off, A = some ⟨g, off, none⟩ ∧ g < W.heap.size ∧ ∀ j, j < z → W.cell? ⟨g, off + i * z + j, none⟩ = (cells o)[j]? := by
  rcases open_slice ht h with ⟨hcs, _⟩ | ⟨a, len', cap', m, n, D, Pl, hcs, _, hl, hm, hmm, _, hi⟩
  · simp only [List.cons.injEq, and_true] at hcs
    exact ⟨none, [], 0, hcs, by simp, fun i o h => by simp at h⟩
  · simp only [List.cons.injEq, and_true] at hcs
    have hlm : len' ≤ m := by rw [hmm]; split <;> omega
    have key : ∀ i, i < len' → ∃ o : α, ∃ b off, a = ⟨b, off, none⟩ ∧ b < W.heap.size ∧ ∀ j, j < z → W.cell? ⟨b, off + i * z + j, none⟩ = (cells o)[j]? := by
      intro i hlt
      obtain ⟨cs', hc1, ht'⟩ := hi i (by omega)
      obtain ⟨o, ho⟩ := hc _ _ _ ht'
      rw [hz] at hc1
      obtain ⟨_, hcl, hat⟩ := World.cells?_some hc1
      subst ho
      obtain ⟨b, off, spot⟩ := a
      have hspot : spot = none ∧ b < W.heap.size := by
        obtain ⟨cs0, hc0, _⟩ := hi 0 (by omega)
        rw [hz] at hc0
        obtain ⟨_, hcl0, hat0⟩ := World.cells?_some hc0
        have h0 := (hat0 0 (by omega)).trans (List.getElem?_eq_getElem (by omega))
        have h1 := World.cell?_spot h0
        have h2 := World.block_lt_of_cell? W _ h0
        refine ⟨by simpa [Addr.add] using h1, ?_⟩
        have e3 : ∀ (p : Addr) (k : Nat), (p.add k).block = p.block := fun p k => by unfold Addr.add; split <;> rfl
        rw [e3, e3] at h2
        exact h2
      obtain ⟨rfl, hb⟩ := hspot
      refine ⟨o, b, off, rfl, hb, fun j hj => ?_⟩
      have := hat j hj
      rw [Go.WideShapes.add_plain, Go.WideShapes.add_plain] at this
      exact this
    obtain ⟨f, hf⟩ := choose_lt (p := fun i o => ∃ b off, a = ⟨b, off, none⟩ ∧ b < W.heap.size ∧ ∀ j, j < z → W.cell? ⟨b, off + i * z + j, none⟩ = (cells o)[j]?) key
    refine ⟨some a, (List.range len').map f, cap', by simpa using hcs, by simp; unfold maxLen at hm; omega, fun i o ho => ?_⟩
    rw [List.getElem?_map] at ho
    by_cases hil : i < len'
    · rw [List.getElem?_range hil] at ho
      simp only [Option.map_some, Option.some.injEq] at ho
      subst ho
      obtain ⟨b, off, e, hb, hx⟩ := hf i hil
      exact ⟨b, off, by rw [e], hb, hx⟩
    · rw [List.getElem?_eq_none (by simp; omega)] at ho
      cases ho

/-- A row of bytes that is an argument. -/
structure U8s (w : World) (A : Option Addr) (l : List (Fin 256)) : Prop where
  at_ : ∀ i o, l[i]? = some o → ∃ g off, A = some ⟨g, off, none⟩ ∧ g < w.heap.size ∧ w.cell? ⟨g, off + i, none⟩ = some (.int .u8 ((o.1 : Nat) : Int))
theorem open_u8s {H : Type} {enc : TypeId × Value → H} {W : World} {held : Bool} {spare : Nat → Bool} {v : Value} {d : DataW H} {p : List MemPlace} (hv : ∃ a len cap, v = .slice a len cap) (h : DataW.Trod enc Tryz.prog W 0 spare held 73 v d p) :
    ∃ A c l, v = .slice A (List.length l) c ∧ l.length ≤ 9223372036854775807 ∧ U8s W A l := by
  obtain ⟨a0, len, cap, rfl⟩ := hv
  obtain ⟨fuel, hf⟩ := h
  have hf' : DataW.trod enc Tryz.prog W 0 spare held fuel 73 [.slice a0 len cap] = some (d, p) := by simpa [Value.cells] using hf
  obtain ⟨A, l, cap', e, hl, hx⟩ := open_row Tryz.underlying73 (by kernel_rfl : Tryz.prog.cellsOf 5 = 1) (by omega) (cells := fun o : Fin 256 => [Value.int .u8 ((o.1 : Nat) : Int)]) (fun n cs x h => by
    obtain ⟨q, e, -, w0⟩ := DataW.trod_int Tryz.underlying5 h
    obtain ⟨k, rfl, hk⟩ := wf_u8 w0
    exact ⟨⟨k, hk⟩, e⟩) hf'
  refine ⟨A, cap', l, e, hl, ⟨fun i o ho => ?_⟩⟩
  obtain ⟨g, off, e, hg, hc⟩ := hx i o ho
  have h0 := hc 0 (by omega)
  rw [Nat.mul_one] at h0
  exact ⟨g, off, e, hg, h0⟩
/-- A row of numbers that is an argument. -/
structure Ints (w : World) (A : Option Addr) (l : List Int) : Prop where
  at_ : ∀ i o, l[i]? = some o → ∃ g off, A = some ⟨g, off, none⟩ ∧ g < w.heap.size ∧ w.cell? ⟨g, off + i, none⟩ = some (.int .i64 o)
theorem open_ints {H : Type} {enc : TypeId × Value → H} {W : World} {held : Bool} {spare : Nat → Bool} {v : Value} {d : DataW H} {p : List MemPlace} (hv : ∃ a len cap, v = .slice a len cap) (h : DataW.Trod enc Tryz.prog W 0 spare held 49 v d p) :
    ∃ A c l, v = .slice A (List.length l) c ∧ l.length ≤ 9223372036854775807 ∧ Ints W A l := by
  obtain ⟨a0, len, cap, rfl⟩ := hv
  obtain ⟨fuel, hf⟩ := h
  have hf' : DataW.trod enc Tryz.prog W 0 spare held fuel 49 [.slice a0 len cap] = some (d, p) := by simpa [Value.cells] using hf
  obtain ⟨A, l, cap', e, hl, hx⟩ := open_row Tryz.underlying49 (by kernel_rfl : Tryz.prog.cellsOf 3 = 1) (by omega) (cells := fun o : Int => [Value.int .i64 o]) (fun n cs x h => by
    obtain ⟨q, e, -, -⟩ := DataW.trod_int Tryz.underlying3 h
    exact ⟨q, e⟩) hf'
  refine ⟨A, cap', l, e, hl, ⟨fun i o ho => ?_⟩⟩
  obtain ⟨g, off, e, hg, hc⟩ := hx i o ho
  have h0 := hc 0 (by omega)
  rw [Nat.mul_one] at h0
  exact ⟨g, off, e, hg, h0⟩
end Go.Proofs.YtmmpknfkncgjpaaGreatDoor

namespace Go.Proofs.YtmmpknfkncgjpaaGreatDoor
open Go.RowKit

section
variable {now n i : Int}
@[reducible] def eE (n i : Int) : M := ⟨4, 0, 1, n, i, 0, 0, ⟨#[]⟩⟩
@[reducible] def eR (n : Int) : M := ⟨1, 0, 1, n, 0, 0, 0, ⟨#[]⟩⟩
@[reducible] def eT (x : ByteArray) : M := ⟨3, 0, 1, 0, 0, 2, 0, x⟩
@[reducible] def eW (x : ByteArray) : M := ⟨2, 2, 1, 0, 0, 0, 0, x⟩
def vE (now : Int) : Sv := ⟨now, Sv.new.tm, []⟩
theorem eE_heard (h0 : 0 ≤ n) (h1 : n ≤ 255) (i0 : 0 ≤ i) (i1 : i ≤ 1000) : heard 1 (fresh 9) (eE n i) :=
  ⟨rfl, chk_ok (m := eE n i) (by simp only; omega) (show (ByteArray.mk #[]).size ≤ 1024 by decide), rfl, (show (1 : Int) ≤ 4 by decide), (show (4 : Int) ≤ 4 by decide)⟩
theorem eR_heard (h0 : 0 ≤ n) (h1 : n ≤ 255) : heard 1 (fresh 9) (eR n) :=
  ⟨rfl, chk_ok (m := eR n) (by simp only; omega) (show (ByteArray.mk #[]).size ≤ 1024 by decide), rfl, (show (1 : Int) ≤ 1 by decide), (show (1 : Int) ≤ 4 by decide)⟩
theorem epo_old (h : n < now) (h0 : 0 ≤ n) (h1 : n ≤ 255) (i0 : 0 ≤ i) (i1 : i ≤ 1000) :
    hA 1 (fresh 9) L9 (vE now) (eE n i) 0 = (⟨132, 1, 0, now, i, 0, 5, ⟨#[]⟩⟩, true) ∧ hS 1 (fresh 9) L9 (vE now) (eE n i) 0 = (fresh 9, L9, vE now) := by
  have he : epO (vE now) (eE n i) = (5, now) := if_pos h
  have ho : hO L9 (fresh 9) (vE now) (eE n i) 0 = (5, ⟨#[]⟩, fresh 9, L9, vE now) := by
    unfold hO
    rw [if_neg (show ¬ (4 : Int) = 1 by decide), if_neg (show ¬ (4 : Int) = 2 by decide), if_neg (show ¬ (4 : Int) = 3 by decide), he]
    rfl
  exact hA_of (eE_heard h0 h1 i0 i1) ho rfl
theorem epo_new (h : ¬ n < now) (h0 : 0 ≤ n) (h1 : n ≤ 255) (i0 : 0 ≤ i) (i1 : i ≤ 1000) :
    hA 1 (fresh 9) L9 (vE now) (eE n i) 0 = (⟨132, 1, 0, n, i, 0, 0, ⟨#[]⟩⟩, true) ∧ hS 1 (fresh 9) L9 (vE now) (eE n i) 0 = (fresh 9, L9, vE n) := by
  have he : epO (vE now) (eE n i) = (0, n) := if_neg h
  have ho : hO L9 (fresh 9) (vE now) (eE n i) 0 = (0, ⟨#[]⟩, fresh 9, L9, vE n) := by
    unfold hO
    rw [if_neg (show ¬ (4 : Int) = 1 by decide), if_neg (show ¬ (4 : Int) = 2 by decide), if_neg (show ¬ (4 : Int) = 3 by decide), he]
    rfl
  exact hA_of (eE_heard h0 h1 i0 i1) ho rfl
theorem read_other (h : n ≠ now) (h0 : 0 ≤ n) (h1 : n ≤ 255) :
    hA 1 (fresh 9) L9 (vE now) (eR n) 0 = (⟨129, 1, 0, now, 0, 0, 120, ⟨#[]⟩⟩, true) ∧ hS 1 (fresh 9) L9 (vE now) (eR n) 0 = (fresh 9, L9, vE now) := by
  have he : rdO L9 (vE now) (eR n) = (120, ⟨#[]⟩) := if_pos h
  have ho : hO L9 (fresh 9) (vE now) (eR n) 0 = (120, ⟨#[]⟩, fresh 9, L9, vE now) := by
    unfold hO
    rw [if_pos rfl, he]
  exact hA_of (eR_heard h0 h1) ho rfl
theorem read_this (h0 : 0 ≤ n) (h1 : n ≤ 255) :
    hA 1 (fresh 9) L9 (vE n) (eR n) 0 = (⟨129, 1, 0, n, 0, 0, 3, ⟨#[]⟩⟩, true) ∧ hS 1 (fresh 9) L9 (vE n) (eR n) 0 = (fresh 9, L9, vE n) := by
  have he : rdO L9 (vE n) (eR n) = (3, ⟨#[]⟩) := by
    unfold rdO
    rw [if_neg (by simp [vE]), getL_new]
  have ho : hO L9 (fresh 9) (vE n) (eR n) 0 = (3, ⟨#[]⟩, fresh 9, L9, vE n) := by
    unfold hO
    rw [if_pos rfl, he]
  exact hA_of (eR_heard h0 h1) ho rfl
def vT (now : Int) : Sv := ⟨now, Sv.new.tm.set 2 100, []⟩
theorem v100 : valE 100 ⟨#[]⟩ = 0 := by decide
theorem v9 : valE 9 ⟨#[97]⟩ = 0 := by decide
theorem epo_time : hA 1 (fresh 9) L9 (vE now) (eT (valB 100 ⟨#[]⟩)) 0 = (⟨131, 1, 0, now, 0, 2, 0, ⟨#[]⟩⟩, true) ∧ hS 1 (fresh 9) L9 (vE now) (eT (valB 100 ⟨#[]⟩)) 0 = (fresh 9, L9, vT now) := by
  have hsz := valB_size 100 ⟨#[]⟩
  have h5 : (ByteArray.mk #[]).size = 0 := rfl
  have hh : heard 1 (fresh 9) (eT (valB 100 ⟨#[]⟩)) := ⟨rfl, chk_ok (m := eT (valB 100 ⟨#[]⟩)) (by simp only; omega) (show (valB 100 ⟨#[]⟩).size ≤ 1024 by omega), rfl, (show (1 : Int) ≤ 3 by decide), (show (3 : Int) ≤ 4 by decide)⟩
  have ht : tmO (vE now) (eT (valB 100 ⟨#[]⟩)) = (0, Sv.new.tm.set 2 100) := by
    unfold tmO
    rw [show (eT (valB 100 ⟨#[]⟩)).data = valB 100 ⟨#[]⟩ from rfl, parO_val v100, if_neg (by simp), if_neg (show ¬ (2 : Int) ≥ 8 by decide)]
    rfl
  have ho : hO L9 (fresh 9) (vE now) (eT (valB 100 ⟨#[]⟩)) 0 = (0, ⟨#[]⟩, fresh 9, L9, vT now) := by
    unfold hO
    rw [if_neg (show ¬ (3 : Int) = 1 by decide), if_neg (show ¬ (3 : Int) = 2 by decide), if_pos rfl, ht]
    rfl
  exact hA_of hh ho rfl
theorem not_heard {id : Int} {s : St} {L : Lay} {v : Sv} {m : M} {t : Int} (h : s.gone = true) : hA id s L v m t = (M.zero, false) ∧ hS id s L v m t = (s, L, v) := by
  have hn : ¬ heard id s m := fun e => by have := e.1; rw [h] at this; cases this
  exact ⟨if_neg (fun e => hn e.1), if_neg hn⟩
theorem epo_last {s : St} {L : Lay} (hg : s.gone = false) : hA 1 s L Sv.new (eW (valB 9 ⟨#[97]⟩)) 0 = (⟨130, 1, 2, 0, 0, 0, 140, ⟨#[]⟩⟩, true) := by
  have hsz := valB_size 9 ⟨#[97]⟩
  have h5 : (ByteArray.mk #[97]).size = 1 := rfl
  have hh : heard 1 s (eW (valB 9 ⟨#[97]⟩)) := ⟨hg, chk_ok (m := (eW (valB 9 ⟨#[97]⟩))) (by simp only; omega) (show (valB 9 ⟨#[97]⟩).size ≤ 1024 by omega), rfl, (show (1 : Int) ≤ 2 by decide), (show (2 : Int) ≤ 4 by decide)⟩
  have hw : wrtO L s Sv.new (eW (valB 9 ⟨#[97]⟩)) 0 = (140, s, L, []) := by
    unfold wrtO
    rw [if_neg (by simp [Sv.new]), show (eW (valB 9 ⟨#[97]⟩)).data = valB 9 ⟨#[97]⟩ from rfl, parO_val v9, if_neg (by simp)]
    rw [if_pos (.inl (by show Sv.new.tm.getD (2 : Int).toNat (-1) < 0; rw [tm_new (by decide) (by decide)]; decide))]
    rfl
  have ho : hO L s Sv.new (eW (valB 9 ⟨#[97]⟩)) 0 = (140, ⟨#[]⟩, s, L, Sv.new) := by
    unfold hO
    rw [if_neg (show ¬ (2 : Int) = 1 by decide), if_pos rfl, hw]
    rfl
  exact (hA_of hh ho hg).1
end
end Go.Proofs.YtmmpknfkncgjpaaGreatDoor
