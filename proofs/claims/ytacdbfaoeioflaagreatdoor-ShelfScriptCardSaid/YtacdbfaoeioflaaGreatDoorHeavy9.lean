/-
  Lists of calls that came in, opened to their cells.

  heavy and ints (weirkeeplaw09), by contracts.
-/
import Derived.Test.YtacdbfaoeioflaaGreatDoorOpenB
import Derived.Test.YtacdbfaoeioflaaGreatDoorSolo2
namespace Go.Proofs.YtacdbfaoeioflaaGreatDoor
open Go.ChangeShapes Go.WideShapes Go.RowKit Go.Deep

/-- A call: its kind, a sector or number of calls, a block, a text, what of a write takes place. -/
structure Stp where
  kind : Int
  i : Int
  b : Bk
  s : ByteArray
  keep : Nat
@[reducible] def Stp.cells (o : Stp) : Array Value := #[.int .i64 o.kind, .int .i64 o.i, .int .i64 o.b.id, .int .i64 o.b.ver, .string o.b.data, .string o.s, .int .u64 (o.keep : Int)]
def Stp.val (o : Stp) : Value := .agg #[.int .i64 o.kind, .int .i64 o.i, o.b.val, .string o.s, .int .u64 (o.keep : Int)]
def Stp.ok (o : Stp) : Prop := o.i < 9223372036854775808 ∧ i64 o.b.id ∧ o.s.size ≤ 9223372036854775807 ∧ o.keep < 18446744073709551616
/-- Its cells, from offset o of block g on. -/
def StAt (w : World) (g o : Nat) (x : Stp) : Prop := w.cell? ⟨g, o, none⟩ = some (.int .i64 x.kind) ∧ w.cell? ⟨g, o + 1, none⟩ = some (.int .i64 x.i) ∧ w.cell? ⟨g, o + 2, none⟩ = some (.int .i64 x.b.id) ∧ w.cell? ⟨g, o + 3, none⟩ = some (.int .i64 x.b.ver) ∧ w.cell? ⟨g, o + 4, none⟩ = some (.string x.b.data) ∧ w.cell? ⟨g, o + 5, none⟩ = some (.string x.s) ∧ w.cell? ⟨g, o + 6, none⟩ = some (.int .u64 (x.keep : Int))
theorem StAt.below {w w' : World} {B g o : Nat} {x : Stp} (h : StAt w g o x) (hb : Below B w w') (hg : g < B) : StAt w' g o x := by
  obtain ⟨h0, h1, h2, h3, h4, h5, h6⟩ := h
  exact ⟨(hb.cell (p := ⟨g, o, none⟩) hg).trans h0, (hb.cell (p := ⟨g, o + 1, none⟩) hg).trans h1, (hb.cell (p := ⟨g, o + 2, none⟩) hg).trans h2, (hb.cell (p := ⟨g, o + 3, none⟩) hg).trans h3, (hb.cell (p := ⟨g, o + 4, none⟩) hg).trans h4, (hb.cell (p := ⟨g, o + 5, none⟩) hg).trans h5, (hb.cell (p := ⟨g, o + 6, none⟩) hg).trans h6⟩
/-- The step is all that block b has. -/
def AS (w : World) (b : Nat) (x : Stp) : Prop := w.heap[b]? = some (.cells x.cells 40 (0, 0))
theorem AS.fresh (w : World) (x : Stp) : AS (w.alloc (.cells x.cells 40)) w.heap.size x := heap_alloc_new w _
theorem AS.lt {w : World} {b : Nat} {x : Stp} (h : AS w b x) : b < w.heap.size := (Array.getElem?_eq_some_iff.1 h).1
theorem AS.below {w w' : World} {b : Nat} {x : Stp} (h : AS w b x) (hb : Below w.heap.size w w') : AS w' b x := by
  unfold AS; rw [hb.block b h.lt]; exact h
theorem AS.cell {w : World} {b : Nat} {x : Stp} (h : AS w b x) (i : Nat) : w.cell? ⟨b, i, none⟩ = x.cells[i]? := by
  unfold World.cell?; simp only [show w.heap[b]? = _ from h]; rfl
theorem AS.all {w : World} {b : Nat} {x : Stp} (h : AS w b x) : w.cell? ⟨b, 0, none⟩ = some (.int .i64 x.kind) ∧ w.cell? ⟨b, 1, none⟩ = some (.int .i64 x.i) ∧ w.cell? ⟨b, 2, none⟩ = some (.int .i64 x.b.id) ∧ w.cell? ⟨b, 3, none⟩ = some (.int .i64 x.b.ver) ∧ w.cell? ⟨b, 4, none⟩ = some (.string x.b.data) ∧ w.cell? ⟨b, 5, none⟩ = some (.string x.s) ∧ w.cell? ⟨b, 6, none⟩ = some (.int .u64 (x.keep : Int)) :=
  ⟨h.cell 0, h.cell 1, h.cell 2, h.cell 3, h.cell 4, h.cell 5, h.cell 6⟩
theorem AS.keptO {w w' : World} {b : Nat} {x : Stp} {O : Nat → Prop} (h : AS w b x) (hk : Kept O w w') (hO : O b) : AS w' b x := by
  unfold AS; rw [hk b hO]; exact h
/-- A list of calls that came in. -/
structure SIn (w : World) (A : Option Addr) (n : Nat) (st : Nat → Stp) : Prop where
  at_ : ∀ i, i < n → ∃ g off, A = some ⟨g, off, none⟩ ∧ g < w.heap.size ∧ StAt w g (off + i * 7) (st i)
  ok : ∀ i, i < n → (st i).ok
theorem SIn.cells {w w' : World} {A : Option Addr} {n i : Nat} {st : Nat → Stp} (h : SIn w A n st) (hb : Below w.heap.size w w') (hi : i < n) : ∃ g off, A = some ⟨g, off, none⟩ ∧ StAt w' g (off + i * 7) (st i) := by
  obtain ⟨g, off, e, hg, hc⟩ := h.at_ i hi
  exact ⟨g, off, e, hc.below hb hg⟩

set_option maxRecDepth 100000 in
/-- A call's cells, as a reading finds them. -/
theorem stp_cells {H : Type} {enc : TypeId × Value → H} {w : World} {base n : Nat} {spare : Nat → Bool} {held : Bool} {cs : List Value} {x : DataW H × List MemPlace} (h : DataW.trod enc Tryz.prog w base spare held n 40 cs = some x) :
    ∃ o : Stp, cs = o.cells.toList ∧ o.ok := by
  obtain ⟨ys, n', _, _, hlen, hyl, hf⟩ := DataW.trod_struct Tryz.underlying40 h
  have hlen : cs.length = 7 := hlen.trans (by kernel_rfl)
  match cs, hlen with
  | [c0, c1, c2, c3, c4, c5, c6], _ =>
    have hy : ∀ j, j < 5 → ∃ y, ys[j]? = some y := fun j hj => ⟨_, List.getElem?_eq_getElem (by rw [hyl]; exact hj)⟩
    obtain ⟨y0, g0⟩ := hy 0 (by omega)
    obtain ⟨y1, g1⟩ := hy 1 (by omega)
    obtain ⟨y2, g2⟩ := hy 2 (by omega)
    obtain ⟨y3, g3⟩ := hy 3 (by omega)
    obtain ⟨y4, g4⟩ := hy 4 (by omega)
    have t0 : DataW.trod enc Tryz.prog w base spare held n' 3 (([c0, c1, c2, c3, c4, c5, c6].drop 0).take (Tryz.prog.cellsOf 3)) = some y0 := (hf 0 _ rfl).trans g0
    have t1 : DataW.trod enc Tryz.prog w base spare held n' 3 (([c0, c1, c2, c3, c4, c5, c6].drop 1).take (Tryz.prog.cellsOf 3)) = some y1 := (hf 1 _ rfl).trans g1
    have t2 : DataW.trod enc Tryz.prog w base spare held n' 37 (([c0, c1, c2, c3, c4, c5, c6].drop 2).take (Tryz.prog.cellsOf 37)) = some y2 := (hf 2 _ rfl).trans g2
    have t3 : DataW.trod enc Tryz.prog w base spare held n' 9 (([c0, c1, c2, c3, c4, c5, c6].drop 5).take (Tryz.prog.cellsOf 9)) = some y3 := (hf 3 _ rfl).trans g3
    have t4 : DataW.trod enc Tryz.prog w base spare held n' 38 (([c0, c1, c2, c3, c4, c5, c6].drop 6).take (Tryz.prog.cellsOf 38)) = some y4 := (hf 4 _ rfl).trans g4
    have z : Tryz.prog.cellsOf 3 = 1 := by kernel_rfl
    have zb : Tryz.prog.cellsOf 37 = 3 := by kernel_rfl
    have zs : Tryz.prog.cellsOf 9 = 1 := by kernel_rfl
    have zu : Tryz.prog.cellsOf 38 = 1 := by kernel_rfl
    simp only [z, zb, zs, zu, List.drop_succ_cons, List.drop_zero, List.take_succ_cons, List.take_zero] at t0 t1 t2 t3 t4
    obtain ⟨q0, e0, -, -⟩ := DataW.trod_int Tryz.underlying3 t0
    obtain ⟨q1, e1, -, w1⟩ := DataW.trod_int Tryz.underlying3 t1
    obtain ⟨q2, e2, w2, -⟩ := bk_cells t2
    obtain ⟨q3, e3, -, w3⟩ := DataW.trod_string Tryz.underlying9 t3
    obtain ⟨q4, e4, -, w4⟩ := DataW.trod_int Tryz.underlying38 t4
    simp only [List.cons.injEq, and_true] at e0 e1 e2 e3 e4
    obtain ⟨k, rfl, hk⟩ := wf_u64 w4
    subst e0 e1 e3 e4
    obtain ⟨rfl, rfl, rfl⟩ := e2
    exact ⟨⟨q0, q1, q2, q3, k⟩, rfl, wf_i64 w1, w2, by unfold maxLen at w3; show q3.size ≤ _; omega, hk⟩
def stp0 : Stp := ⟨0, 0, Bk.zero, ⟨#[]⟩, 0⟩
set_option maxRecDepth 100000 in
/-- The list of calls that an argument is. -/
theorem open_stps {H : Type} {enc : TypeId × Value → H} {W : World} {held : Bool} {spare : Nat → Bool} {v : Value} {d : DataW H} {p : List MemPlace} (hv : ∃ a len cap, v = .slice a len cap) (h : DataW.Trod enc Tryz.prog W 0 spare held 22 v d p) :
    ∃ A n c st, v = .slice A n c ∧ n ≤ 9223372036854775807 ∧ SIn W A n st := by
  obtain ⟨a0, len, cap, rfl⟩ := hv
  obtain ⟨fuel, hf⟩ := h
  have hf' : DataW.trod enc Tryz.prog W 0 spare held fuel 22 [.slice a0 len cap] = some (d, p) := by simpa [Value.cells] using hf
  have zc : Tryz.prog.cellsOf 40 = 7 := by kernel_rfl
  rcases open_slice Tryz.underlying22 hf' with ⟨hc, _⟩ | ⟨a, len', cap', m, n, D, Pl, hcs, _, hl, hm, hmm, _, hi⟩
  · simp only [List.cons.injEq, Value.slice.injEq, and_true] at hc
    obtain ⟨rfl, rfl, rfl⟩ := hc
    exact ⟨none, 0, 0, fun _ => stp0, rfl, by omega, ⟨fun i hi => by omega, fun i hi => by omega⟩⟩
  · simp only [List.cons.injEq, Value.slice.injEq, and_true] at hcs
    obtain ⟨rfl, rfl, rfl⟩ := hcs
    have hlm : len ≤ m := by rw [hmm]; split <;> omega
    have key : ∀ i, ∃ o : Stp, i < len → (∃ b off, some a = some ⟨b, off, none⟩ ∧ b < W.heap.size ∧ StAt W b (off + i * 7) o) ∧ o.ok := by
      intro i
      by_cases hlt : i < len
      · obtain ⟨cs', hc, ht'⟩ := hi i (by omega)
        obtain ⟨o, ho, hoi⟩ := stp_cells ht'
        rw [zc] at hc
        obtain ⟨_, hcl, hat⟩ := World.cells?_some hc
        subst ho
        obtain ⟨b, off, spot⟩ := a
        have hspot : spot = none := by
          obtain ⟨cs0, hc0, _⟩ := hi 0 (by omega)
          rw [zc] at hc0
          obtain ⟨_, hcl0, hat0⟩ := World.cells?_some hc0
          have h0 := (hat0 0 (by omega)).trans (List.getElem?_eq_getElem (by omega))
          simpa [Addr.add] using World.cell?_spot h0
        subst hspot
        refine ⟨o, fun _ => ⟨⟨b, off, rfl, ?_⟩, hoi⟩⟩
        have hx : ∀ j, j < 7 → W.cell? ⟨b, off + i * 7 + j, none⟩ = o.cells.toList[j]? := fun j hj => by
          have := hat j hj
          rw [Go.WideShapes.add_plain, Go.WideShapes.add_plain] at this
          exact this
        exact ⟨World.block_lt_of_cell? W _ (hx 0 (by omega)), ⟨hx 0 (by omega), hx 1 (by omega), hx 2 (by omega), hx 3 (by omega), hx 4 (by omega), hx 5 (by omega), hx 6 (by omega)⟩⟩
      · exact ⟨stp0, fun h => absurd h hlt⟩
    obtain ⟨f, hf⟩ := Classical.skolem.1 key
    exact ⟨some a, len, cap, f, rfl, by unfold maxLen at hm; omega, ⟨fun i hi => (hf i hi).1, fun i hi => (hf i hi).2⟩⟩
/-- Is the list too long, or one of its texts? -/
def heavyS (n : Nat) (st : Nat → Stp) : Bool := decide (80 < n) || (List.range n).any fun i => decide (100 < (st i).s.size) || decide (100 < (st i).b.data.size)
end Go.Proofs.YtacdbfaoeioflaaGreatDoor

namespace Go.Proofs.YtacdbfaoeioflaaGreatDoor
open Go.RowKit

/-- What heavy answers. -/
def HeavyOut (n : Nat) (st : Nat → Stp) (w : World) (e : Ending) (w' : World) : Prop := ∃ hv : Bool, e = .returned (.bool hv) ∧ w = w' ∧ (hv = false → n ≤ 80 ∧ ∀ i, i < n → (st i).s.size ≤ 100 ∧ (st i).b.data.size ≤ 100)
theorem HeavyOut.yes {n : Nat} {st : Nat → Stp} {w w' : World} {e : Ending} (he : e = .returned (.bool true)) (hw : w = w') : HeavyOut n st w e w' := ⟨true, he, hw, fun h => by cases h⟩
theorem HeavyOut.no {n : Nat} {st : Nat → Stp} {w w' : World} {e : Ending} (he : e = .returned (.bool false)) (hw : w = w') (h : n ≤ 80 ∧ ∀ i, i < n → (st i).s.size ≤ 100 ∧ (st i).b.data.size ≤ 100) : HeavyOut n st w e w' := ⟨false, he, hw, fun _ => h⟩
set_option maxRecDepth 100000 in
set_option maxHeartbeats 2000000 in
theorem heavy_any {w : World} {A : Option Addr} {n c : Nat} {st : Nat → Stp} (h : SIn w A n st) (hn : n ≤ 9223372036854775807) :
    Calls Tryz.prog 7 #[.slice A n c] w fun e w' => HeavyOut n st w e w' := by
  have HS := Lib.hid h
  clear h
  by_cases h80 : 80 < n
  · have hI : (80 : Int) < (n : Int) := by omega
    go_enter Tryz.func7, Tryz.ntmps7
    go_wp2
    go_ret
    exact HeavyOut.yes rfl rfl
  · have hI : ¬ (80 : Int) < (n : Int) := by omega
    go_enter Tryz.func7, Tryz.ntmps7
    go_wp2
    clear hI
    go_loop [3] (fun iv => ∃ i : Nat, i ≤ n ∧ iv = .int .i64 i ∧ ∀ j, j < i → (st j).s.size ≤ 100 ∧ (st j).b.data.size ≤ 100) (fun iv => n - (RowKit.intOf iv).toNat)
    case atStart => exact ⟨0, Nat.zero_le _, rfl, fun j hj => by omega⟩
    case round =>
      obtain ⟨i, hi, rfl, hno⟩ := hrel
      have HNo := Lib.hid hno
      clear hno
      by_cases hlt : i < n
      · obtain ⟨g, off, rfl, hc⟩ := HS.out.cells (Below.refl _ _) hlt
        obtain ⟨x, hx⟩ : ∃ x, st i = x := ⟨_, rfl⟩
        have HX := Lib.hid hx
        rw [hx] at hc
        obtain ⟨-, -, -, -, c4, c5, -⟩ := hc
        have hlI : (i : Int) < (n : Int) := by omega
        have hiI : (0 : Int) ≤ (i : Int) := by omega
        clear hx HS
        by_cases h1 : 100 < x.s.size
        · have hI1 : (100 : Int) < (x.s.size : Int) := by omega
          clear h1
          go_wp2
          go_ret
          exact HeavyOut.yes rfl rfl
        · have hI1 : ¬ (100 : Int) < (x.s.size : Int) := by omega
          by_cases h2 : 100 < x.b.data.size
          · have hI2 : (100 : Int) < (x.b.data.size : Int) := by omega
            clear h1 h2
            go_wp2
            go_ret
            exact HeavyOut.yes rfl rfl
          · have hI2 : ¬ (100 : Int) < (x.b.data.size : Int) := by omega
            have HNx := Lib.hid (show ∀ j, j < i + 1 → (st j).s.size ≤ 100 ∧ (st j).b.data.size ≤ 100 from fun j hj => by
              by_cases e : j = i
              · subst e; rw [HX.out]; exact ⟨by omega, by omega⟩
              · exact HNo.out j (by omega))
            clear h1 h2
            go_wp2
            go_round
            case rel => exact ⟨i + 1, by omega, by go_num, HNx.out⟩
            case measure => simp only [RowKit.intOf]; omega
      · obtain rfl : i = n := by omega
        have hlI : ¬ ((i : Int) < (i : Int)) := by omega
        have h80' : i ≤ 80 := by omega
        go_wp2
        go_ret
        exact HeavyOut.no rfl rfl ⟨h80', HNo.out⟩

set_option maxRecDepth 100000 in
set_option maxHeartbeats 2000000 in
/-- The same numbers, in two rows. -/
theorem ints_any {w : World} {b1 b2 : Nat} {v1 v2 : Value} {l : List Nat} (h1 : w.ownsRow b1 3 1 v1 l.length (l.map fun i : Nat => Value.int .i64 (i : Int))) (h2 : w.ownsRow b2 3 1 v2 l.length (l.map fun i : Nat => Value.int .i64 (i : Int))) (hl : l.length ≤ 100000) :
    Calls Tryz.prog 34 #[v1, v2] w fun e w' => e = .returned (.bool true) ∧ Below w.heap.size w w' := by
  obtain ⟨A1, c1, rfl, -, hc1⟩ := own_shape h1
  obtain ⟨A2, c2, rfl, -, hc2⟩ := own_shape h2
  clear h1 h2
  have HC1 := Lib.hid hc1
  have HC2 := Lib.hid hc2
  clear hc1 hc2
  obtain ⟨n, hn⟩ : ∃ n, l.length = n := ⟨_, rfl⟩
  have HN := Lib.hid hn
  rw [hn] at hl
  rw [hn]
  clear hn
  go_enter Tryz.func34, Tryz.ntmps34
  go_wp2
  go_loopw [5] (fun iv wr => ∃ k : Nat, k ≤ n ∧ iv = .int .i64 k ∧ Below w.heap.size w wr) (fun iv _ => n - (RowKit.intOf iv).toNat)
  case atStart => exact ⟨0, Nat.zero_le _, rfl, Below.refl _ _⟩
  case round =>
    obtain ⟨k, hk, rfl, hb⟩ := hrel
    have HB := Lib.hid hb
    clear hb
    by_cases hlt : k < n
    · obtain ⟨x, hx⟩ : ∃ x, l[k]? = some x := ⟨_, List.getElem?_eq_getElem (by rw [HN.out]; exact hlt)⟩
      have hm : (l.map fun i : Nat => Value.int .i64 (i : Int))[k]? = some (.int .i64 (x : Int)) := by rw [List.getElem?_map, hx]; rfl
      obtain ⟨g, rfl, p1⟩ := HC1.out k _ hm
      obtain ⟨g', rfl, p2⟩ := HC2.out k _ hm
      have q1 := (((HB.out.trans ((Below.refl _ wr).drew.mono HB.out.size))).cell (p := ⟨g, k, none⟩) (cell_lt p1)).trans p1
      have q2 := (((HB.out.trans ((Below.refl _ wr).drew.mono HB.out.size))).cell (p := ⟨g', k, none⟩) (cell_lt p2)).trans p2
      have hkI : (k : Int) < (n : Int) := by omega
      have hk0 : (0 : Int) ≤ (k : Int) := by omega
      have HB1 := Lib.hid (HB.out.drew)
      clear p1 p2 hx hm HC1 HC2
      go_wp2_with fail
      go_region
      all_goals
        go_wp2
        go_roundw
        case rel => exact ⟨k + 1, by omega, by go_num, HB1.out⟩
        case measure => simp only [RowKit.intOf]; omega
    · obtain rfl : k = n := by omega
      have hlI : ¬ ((k : Int) < (k : Int)) := by omega
      go_wp2
      go_ret
      exact ⟨rfl, HB.out⟩
end Go.Proofs.YtacdbfaoeioflaaGreatDoor
