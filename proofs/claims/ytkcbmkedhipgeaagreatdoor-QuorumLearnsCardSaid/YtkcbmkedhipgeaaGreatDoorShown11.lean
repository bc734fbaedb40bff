/-
  Lists of calls that came in, opened to their cells.

  heavy and shown (weirkeeplaw11), by contracts.
-/
import Derived.Test.YtkcbmkedhipgeaaGreatDoorDoorBoth
import Derived.Test.YtkcbmkedhipgeaaGreatDoorMem11
import Derived.Deep.Slices
import Derived.Deep.Fields
import Derived.Carry
import Derived.ProofKit
import Derived.Lib.SmallJoins
import Derived.Test.YtkcbmkedhipgeaaGreatDoorPq7
import Derived.Test.YtkcbmkedhipgeaaGreatDoorPq11
namespace Go.Proofs.YtkcbmkedhipgeaaGreatDoor
open Go.ChangeShapes Go.WideShapes Go.RowKit Go.Deep

theorem wf_u64 {x : Int} (h : (Lit.int .u64 x).wf = true) : ∃ n : Nat, x = (n : Int) ∧ n < 18446744073709551616 := by
  simp only [Lit.wf, Bool.and_eq_true, decide_eq_true_eq] at h
  have e1 : IntKind.u64.min = 0 := by decide
  have e2 : IntKind.u64.max = 18446744073709551615 := by decide
  rw [e1, e2] at h
  exact ⟨x.toNat, by omega, by omega⟩
theorem wf_u8 {x : Int} (h : (Lit.int .u8 x).wf = true) : ∃ n : Nat, x = (n : Int) ∧ n < 256 := by
  simp only [Lit.wf, Bool.and_eq_true, decide_eq_true_eq] at h
  have e1 : IntKind.u8.min = 0 := by decide
  have e2 : IntKind.u8.max = 255 := by decide
  rw [e1, e2] at h
  exact ⟨x.toNat, by omega, by omega⟩
/-- A call: its kind, a node, another one, a value, what is lost. -/
structure Stp where
  kind : Int
  i : Int
  j : Int
  x : ByteArray
  L : Nat
@[reducible] def Stp.cells (o : Stp) : Array Value := #[.int .i64 o.kind, .int .i64 o.i, .int .i64 o.j, .string o.x, .int .u64 (o.L : Int)]
def Stp.val (o : Stp) : Value := .agg #[.int .i64 o.kind, .int .i64 o.i, .int .i64 o.j, .string o.x, .int .u64 (o.L : Int)]
/-- Its cells, from offset o of block g on. -/
def StAt (w : World) (g o : Nat) (x : Stp) : Prop := w.cell? ⟨g, o, none⟩ = some (.int .i64 x.kind) ∧ w.cell? ⟨g, o + 1, none⟩ = some (.int .i64 x.i) ∧ w.cell? ⟨g, o + 2, none⟩ = some (.int .i64 x.j) ∧ w.cell? ⟨g, o + 3, none⟩ = some (.string x.x) ∧ w.cell? ⟨g, o + 4, none⟩ = some (.int .u64 (x.L : Int)) ∧ x.L < 18446744073709551616
theorem StAt.below {w w' : World} {B g o : Nat} {x : Stp} (h : StAt w g o x) (hb : Below B w w') (hg : g < B) : StAt w' g o x := by
  obtain ⟨h0, h1, h2, h3, h4, h5⟩ := h
  exact ⟨(hb.cell (p := ⟨g, o, none⟩) hg).trans h0, (hb.cell (p := ⟨g, o + 1, none⟩) hg).trans h1, (hb.cell (p := ⟨g, o + 2, none⟩) hg).trans h2, (hb.cell (p := ⟨g, o + 3, none⟩) hg).trans h3, (hb.cell (p := ⟨g, o + 4, none⟩) hg).trans h4, h5⟩
/-- The step is all that block b has. -/
def AS (w : World) (b : Nat) (x : Stp) : Prop := w.heap[b]? = some (.cells x.cells 37 (0, 0))
theorem AS.fresh (w : World) (x : Stp) : AS (w.alloc (.cells x.cells 37)) w.heap.size x := heap_alloc_new w _
theorem AS.lt {w : World} {b : Nat} {x : Stp} (h : AS w b x) : b < w.heap.size := (Array.getElem?_eq_some_iff.1 h).1
theorem AS.of_block {w w' : World} {b : Nat} {x : Stp} (h : AS w b x) (hb : w'.heap[b]? = w.heap[b]?) : AS w' b x := by unfold AS; rw [hb]; exact h
theorem AS.below {w w' : World} {b : Nat} {x : Stp} (h : AS w b x) (hb : Below w.heap.size w w') : AS w' b x := h.of_block (hb.block b h.lt)
theorem AS.cell {w : World} {b : Nat} {x : Stp} (h : AS w b x) (i : Nat) : w.cell? ⟨b, i, none⟩ = x.cells[i]? := by
  unfold World.cell?; simp only [show w.heap[b]? = _ from h]; rfl
theorem AS.all {w : World} {b : Nat} {x : Stp} (h : AS w b x) : w.cell? ⟨b, 0, none⟩ = some (.int .i64 x.kind) ∧ w.cell? ⟨b, 1, none⟩ = some (.int .i64 x.i) ∧ w.cell? ⟨b, 2, none⟩ = some (.int .i64 x.j) ∧ w.cell? ⟨b, 3, none⟩ = some (.string x.x) ∧ w.cell? ⟨b, 4, none⟩ = some (.int .u64 (x.L : Int)) :=
  ⟨h.cell 0, h.cell 1, h.cell 2, h.cell 3, h.cell 4⟩
/-- A list of calls that came in. -/
def SIn (w : World) (A : Option Addr) (n : Nat) (st : Nat → Stp) : Prop := ∀ i, i < n → ∃ g off, A = some ⟨g, off, none⟩ ∧ g < w.heap.size ∧ StAt w g (off + i * 5) (st i)
theorem SIn.cells {w w' : World} {A : Option Addr} {n i : Nat} {st : Nat → Stp} (h : SIn w A n st) (hb : Below w.heap.size w w') (hi : i < n) : ∃ g off, A = some ⟨g, off, none⟩ ∧ StAt w' g (off + i * 5) (st i) := by
  obtain ⟨g, off, e, hg, hc⟩ := h i hi
  exact ⟨g, off, e, hc.below hb hg⟩

set_option maxRecDepth 100000 in
/-- A call's cells, as a reading finds them. -/
theorem stp_cells {H : Type} {enc : TypeId × Value → H} {w : World} {base n : Nat} {spare : Nat → Bool} {held : Bool} {cs : List Value} {x : DataW H × List MemPlace} (h : DataW.trod enc Tryz.prog w base spare held n 37 cs = some x) :
    ∃ o : Stp, cs = o.cells.toList ∧ o.L < 18446744073709551616 := by
  obtain ⟨ys, n', _, _, hlen, hyl, hf⟩ := DataW.trod_struct Tryz.underlying37 h
  have hlen : cs.length = 5 := hlen.trans (by kernel_rfl)
  match cs, hlen with
  | [c0, c1, c2, c3, c4], _ =>
    have hy : ∀ j, j < 5 → ∃ y, ys[j]? = some y := fun j hj => ⟨_, List.getElem?_eq_getElem (by rw [hyl]; exact hj)⟩
    obtain ⟨y0, g0⟩ := hy 0 (by omega)
    obtain ⟨y1, g1⟩ := hy 1 (by omega)
    obtain ⟨y2, g2⟩ := hy 2 (by omega)
    obtain ⟨y3, g3⟩ := hy 3 (by omega)
    obtain ⟨y4, g4⟩ := hy 4 (by omega)
    have t0 : DataW.trod enc Tryz.prog w base spare held n' 3 (([c0, c1, c2, c3, c4].drop 0).take (Tryz.prog.cellsOf 3)) = some y0 := (hf 0 _ rfl).trans g0
    have t1 : DataW.trod enc Tryz.prog w base spare held n' 3 (([c0, c1, c2, c3, c4].drop 1).take (Tryz.prog.cellsOf 3)) = some y1 := (hf 1 _ rfl).trans g1
    have t2 : DataW.trod enc Tryz.prog w base spare held n' 3 (([c0, c1, c2, c3, c4].drop 2).take (Tryz.prog.cellsOf 3)) = some y2 := (hf 2 _ rfl).trans g2
    have t3 : DataW.trod enc Tryz.prog w base spare held n' 9 (([c0, c1, c2, c3, c4].drop 3).take (Tryz.prog.cellsOf 9)) = some y3 := (hf 3 _ rfl).trans g3
    have t4 : DataW.trod enc Tryz.prog w base spare held n' 35 (([c0, c1, c2, c3, c4].drop 4).take (Tryz.prog.cellsOf 35)) = some y4 := (hf 4 _ rfl).trans g4
    have z : Tryz.prog.cellsOf 3 = 1 := by kernel_rfl
    have zs : Tryz.prog.cellsOf 9 = 1 := by kernel_rfl
    have zu : Tryz.prog.cellsOf 35 = 1 := by kernel_rfl
    simp only [z, zs, zu, List.drop_succ_cons, List.drop_zero, List.take_succ_cons, List.take_zero] at t0 t1 t2 t3 t4
    obtain ⟨q0, e0, -, -⟩ := DataW.trod_int Tryz.underlying3 t0
    obtain ⟨q1, e1, -, -⟩ := DataW.trod_int Tryz.underlying3 t1
    obtain ⟨q2, e2, -, -⟩ := DataW.trod_int Tryz.underlying3 t2
    obtain ⟨q3, e3, -, -⟩ := DataW.trod_string Tryz.underlying9 t3
    obtain ⟨q4, e4, -, w4⟩ := DataW.trod_int Tryz.underlying35 t4
    simp only [List.cons.injEq, and_true] at e0 e1 e2 e3 e4
    obtain ⟨k, rfl, hk⟩ := wf_u64 w4
    subst e0 e1 e2 e3 e4
    exact ⟨⟨q0, q1, q2, q3, k⟩, rfl, hk⟩
def stp0 : Stp := ⟨0, 0, 0, ⟨#[]⟩, 0⟩
set_option maxRecDepth 100000 in
/-- The list of calls that an argument is. -/
theorem open_stps {H : Type} {enc : TypeId × Value → H} {W : World} {held : Bool} {spare : Nat → Bool} {v : Value} {d : DataW H} {p : List MemPlace} (hv : ∃ a len cap, v = .slice a len cap) (h : DataW.Trod enc Tryz.prog W 0 spare held 22 v d p) :
    ∃ A n c st, v = .slice A n c ∧ n ≤ 9223372036854775807 ∧ SIn W A n st := by
  obtain ⟨a0, len, cap, rfl⟩ := hv
  obtain ⟨fuel, hf⟩ := h
  have hf' : DataW.trod enc Tryz.prog W 0 spare held fuel 22 [.slice a0 len cap] = some (d, p) := by simpa [Value.cells] using hf
  have zc : Tryz.prog.cellsOf 37 = 5 := by kernel_rfl
  rcases open_slice Tryz.underlying22 hf' with ⟨hc, _⟩ | ⟨a, len', cap', m, n, D, Pl, hcs, _, hl, hm, hmm, _, hi⟩
  · simp only [List.cons.injEq, Value.slice.injEq, and_true] at hc
    obtain ⟨rfl, rfl, rfl⟩ := hc
    exact ⟨none, 0, 0, fun _ => stp0, rfl, by omega, fun i hi => by omega⟩
  · simp only [List.cons.injEq, Value.slice.injEq, and_true] at hcs
    obtain ⟨rfl, rfl, rfl⟩ := hcs
    have hlm : len ≤ m := by rw [hmm]; split <;> omega
    have key : ∀ i, ∃ o : Stp, i < len → ∃ b off, some a = some ⟨b, off, none⟩ ∧ b < W.heap.size ∧ StAt W b (off + i * 5) o := by
      intro i
      by_cases hlt : i < len
      · obtain ⟨cs', hc, ht'⟩ := hi i (by omega)
        obtain ⟨o, ho, hoL⟩ := stp_cells ht'
        rw [zc] at hc
        obtain ⟨_, hcl, hat⟩ := World.cells?_some hc
        subst ho
        obtain ⟨b, off, spot⟩ := a
        have hspot : spot = none := by
          obtain ⟨cs0, hc0, _⟩ := hi 0 (by omega)
          rw [zc] at hc0
          obtain ⟨_, hcl0, hat0⟩ := World.cells?_some hc0
          have h0 := (hat0 0 (by omega)).trans (List.getElem?_eq_getElem (by omega))
          simpa [Addr.add] using World.cell?_spot h0
        subst hspot
        refine ⟨o, fun _ => ⟨b, off, rfl, ?_⟩⟩
        have hx : ∀ j, j < 5 → W.cell? ⟨b, off + i * 5 + j, none⟩ = o.cells.toList[j]? := fun j hj => by
          have := hat j hj
          rw [Go.WideShapes.add_plain, Go.WideShapes.add_plain] at this
          exact this
        exact ⟨World.block_lt_of_cell? W _ (hx 0 (by omega)), ⟨hx 0 (by omega), hx 1 (by omega), hx 2 (by omega), hx 3 (by omega), hx 4 (by omega), hoL⟩⟩
      · exact ⟨stp0, fun h => absurd h hlt⟩
    obtain ⟨f, hf⟩ := Classical.skolem.1 key
    exact ⟨some a, len, cap, f, rfl, by unfold maxLen at hm; omega, fun i hi => hf i hi⟩
end Go.Proofs.YtkcbmkedhipgeaaGreatDoor

namespace Go.Proofs.YtkcbmkedhipgeaaGreatDoor
open Go.RowKit Go.ChangeMaps

theorem shown_pro : proE (Gp.start 3) 1 ⟨#[120]⟩ 0 = (0, ⟨#[120]⟩, 0) := by decide +kernel
set_option maxRecDepth 100000 in
theorem shown_any (w : World) :
    Calls Tryz.prog 10 #[] w fun e w' => e = .returned (.bool true) ∧ Below w.heap.size w w' := by
  have HN := Lib.hid (new11_any 3 3 w rfl (by omega) (by omega))
  go_enter Tryz.func10, Tryz.ntmps10
  go_wp2_with fail
  go_at_call 11
  refine HN.out.mono ?_
  rintro e w1 ⟨g, P, rfl, hp, hB, hb⟩
  have HPr := Lib.hid (propose_any hp (new_inv 3 (by omega) (by omega) _) 1 ⟨#[120]⟩ 0 (by omega))
  rw [shown_pro] at HPr
  have HB := Lib.hid hb
  have hPB : P.B ≤ w1.heap.size := by have := hp.tab.lo; have := hp.tab.om.lt; omega
  clear hp hb HN
  go_wp2_with fail
  go_at_call 21
  refine HPr.out.mono ?_
  rintro e w2 ⟨P', rfl, hp, ht⟩
  have HB2 := Lib.hid (HB.out.trans ((ht.under hPB).mono (by rw [hB]; exact Nat.le_refl _)))
  have HLn := Lib.hid (len_any hp)
  rw [show (proS (Gp.start 3) 1 ⟨#[120]⟩ 0).n = 3 from ((new_inv 3 (by omega) (by omega) _).pro 1 ⟨#[120]⟩ 0).2] at HLn
  clear hp ht HPr
  go_wp2_with (go_at_call 13; (with_reducible refine HLn.out.mono ?_); rintro e w3 ⟨rfl, rfl⟩)
  go_ret
  exact ⟨rfl, HB2.out⟩
/-- What heavy answers. -/
def HeavyOut (n : Nat) (w : World) (e : Ending) (w' : World) : Prop := ∃ hv : Bool, e = .returned (.bool hv) ∧ w = w' ∧ (hv = false → n ≤ 80)
theorem HeavyOut.yes {n : Nat} {w w' : World} {e : Ending} (he : e = .returned (.bool true)) (hw : w = w') : HeavyOut n w e w' := ⟨true, he, hw, fun h => by cases h⟩
theorem HeavyOut.no {n : Nat} {w w' : World} {e : Ending} (he : e = .returned (.bool false)) (hw : w = w') (h : n ≤ 80) : HeavyOut n w e w' := ⟨false, he, hw, fun _ => h⟩
set_option maxRecDepth 100000 in
set_option maxHeartbeats 2000000 in
theorem heavy_any {w : World} {A : Option Addr} {n c : Nat} {st : Nat → Stp} (h : SIn w A n st) (hn : n ≤ 9223372036854775807) :
    Calls Tryz.prog 9 #[.slice A n c] w fun e w' => HeavyOut n w e w' := by
  have HS := Lib.hid h
  clear h
  obtain ⟨N0, hN0⟩ : ∃ N0 : Int, min (n : Int) 1048576 = N0 := ⟨_, rfl⟩
  have hN1 : 0 ≤ N0 := by omega
  have hN2 : N0 ≤ 1048576 := by omega
  have hN3 : (n : Int) ≤ N0 ∨ 4096 < N0 := by omega
  go_enter Tryz.func9, Tryz.ntmps9
  go_wp2
  clear hN0
  go_loop [3, 4] (fun nv iv => ∃ (i : Nat) (N : Int), i ≤ n ∧ iv = .int .i64 i ∧ nv = .int .i64 N ∧ 0 ≤ N ∧ N ≤ 1052672 ∧ ((n : Int) ≤ N ∨ 4096 < N)) (fun _ iv => n - (RowKit.intOf iv).toNat)
  case atStart => exact ⟨0, N0, Nat.zero_le _, rfl, rfl, hN1, by omega, hN3⟩
  case round =>
    obtain ⟨i, N, hi, rfl, rfl, k1, k2, k3⟩ := hrel
    by_cases hlt : i < n
    · have hlI : (i : Int) < (n : Int) := by omega
      have hiI : (0 : Int) ≤ (i : Int) := by omega
      by_cases hN : N ≤ 4096
      · obtain ⟨g, off, rfl, hc⟩ := HS.out.cells (Below.refl _ _) hlt
        obtain ⟨x, hx⟩ : ∃ x, st i = x := ⟨_, rfl⟩
        rw [hx] at hc
        obtain ⟨-, -, -, c5, -, -⟩ := hc
        obtain ⟨M, hM⟩ : ∃ M : Int, min (x.x.size : Int) 1048576 = M := ⟨_, rfl⟩
        have hM1 : 0 ≤ M := by omega
        have hM2 : M ≤ 1048576 := by omega
        clear hx HS
        go_wp2
        go_round
        case rel => exact ⟨i + 1, N + M, by omega, by go_num, by go_num, by omega, by omega, by omega⟩
        case measure => simp only [RowKit.intOf]; omega
      · have hN' : ¬ N ≤ 4096 := hN
        have hN8 : 4096 < N := by omega
        clear HS
        go_wp2
        go_ret
        exact HeavyOut.yes rfl rfl
    · obtain rfl : i = n := by omega
      have hlI : ¬ ((i : Int) < (i : Int)) := by omega
      clear HS
      by_cases hN8 : 4096 < N
      · go_wp2
        go_ret
        exact HeavyOut.yes rfl rfl
      · by_cases h100 : 80 < i
        · have h100I : (80 : Int) < (i : Int) := by omega
          go_wp2
          go_ret
          exact HeavyOut.yes rfl rfl
        · have h100I : ¬ (80 : Int) < (i : Int) := by omega
          go_wp2
          go_ret
          exact HeavyOut.no rfl rfl (by omega)
end Go.Proofs.YtkcbmkedhipgeaaGreatDoor
