/-
  ConfigReplays is proved as it stands: for every log and every order the law answers true, and its arguments read as before. Condition: errors.errorType reads as its initialiser lays it (the card ties that to the program's text).
-/
import Derived.Test.YthjinpbclfankaaGreatDoorRows
import Derived.Test.YthjinpbclfankaaGreatDoorCards
import Derived.Test.YthjinpbclfankaaGreatDoorTie
import Derived.Test.YthjinpbclfankaaGreatDoorChain
import Derived.ChangeSame
import Derived.ChangeVars
import Derived.JoinedOf
import Derived.RowKit
import Derived.RowKitTokens
import Derived.LaidLaws
import Derived.LaidHandle
import Derived.Stop.Joined
import Derived.SevenTiedAt
import Derived.OpenShut
import Derived.Test.YthjinpbclfankaaGreatDoorRrep
import Derived.Deep.Slices
import Derived.Deep.Fields
import Derived.Carry
import Derived.ProofKit
import Derived.Lib.SmallJoins
import Derived.Test.YthjinpbclfankaaGreatDoorRenc
import Derived.Test.YthjinpbclfankaaGreatDoorThe
import Derived.Test.YthjinpbclfankaaGreatDoorRc4
import Derived.Laws.StructEq
namespace Go.Proofs.YthjinpbclfankaaGreatDoor
open Go.ChangeShapes Go.WideShapes Go.RowKit

theorem ownK : ownKnob Tryz.prog.godebug = none := by kernel_rfl
theorem etK : Tryz.prog.globalNamed "errors.errorType" = some 0 := by kernel_rfl
theorem rtK : (Tryz.prog.cutTypes.find? (·.1 == "internal/reflectlite.rtype")).map (·.2) = some 165 := by kernel_rfl
theorem oneRowK : ((List.range Tryz.prog.types.size).filter fun t => Tryz.prog.rowNamed t [101, 114, 114, 111, 114]) = [60] := by kernel_rfl

/-- What the condition gives a walk. -/
theorem errType_of_laid {W : World} (h : laidMetH Tryz.prog [("errors.errorType", Rows.laid_errors_errorType)] W) : ErrType W := by
  have h' : laidMet Tryz.prog [] W ∧ handlesMet Tryz.prog [("errors.errorType", Rows.laid_errors_errorType)] W := h
  obtain ⟨name, u, ty, e1, e2, e3, e4, e5⟩ := h'.2 _ (List.mem_singleton.2 rfl)
  have en : name = [101, 114, 114, 111, 114] := (Option.some.inj e1).symm
  subst en
  obtain rfl := Option.some.inj (rtK.symm.trans e2)
  have hm : ty ∈ (List.range Tryz.prog.types.size).filter fun t => Tryz.prog.rowNamed t [101, 114, 114, 111, 114] := List.mem_filter.2 ⟨List.mem_range.2 e3, e4⟩
  rw [oneRowK] at hm
  obtain rfl := List.mem_singleton.1 hm
  have hh : typeHandle Tryz.prog 60 = .pointer (some ⟨1, 60, none⟩) := by kernel_rfl
  rw [hh] at e5
  simpa [ErrType] using World.var?_cell etK e5 0

/-- A world that meets the condition. -/
noncomputable def laidWorld (os : Os) : World :=
  let w0 := World.holding Tryz.prog os ⟨#[], #[], []⟩
  { w0 with heap := w0.heap.modify 0 fun
      | .cells _ t frozen => .cells #[.iface 165 (.agg #[.pointer (some ⟨1, 60, none⟩)])] t frozen
      | o => o }
theorem laidWorld_met (os : Os) (args : Array Value) : laidMetH Tryz.prog [("errors.errorType", Rows.laid_errors_errorType)] ((laidWorld os).forCall (fun _ _ => 0) ⟨#[], args, []⟩).memory :=
  laidMetH_of_parts (laidMet_nil _ _) (by kernel_rfl)
theorem novars {H : Type} {enc : TypeId × Value → H} {W : World} {may : Nat → Bool} {gs : List (DataW H)} {q : List MemPlace} (hV : DataW.TrodVars enc Tryz.prog W may [] gs q) : gs = [] ∧ q = [] := by
  cases gs with
  | nil => exact ⟨rfl, hV⟩
  | cons g r => exact absurd hV (by intro h; cases h)
end Go.Proofs.YthjinpbclfankaaGreatDoor
namespace Go.Proofs.YthjinpbclfankaaGreatDoor
open Go.ChangeShapes Go.WideShapes Go.RowKit Go.Deep

theorem laidOutK : laidOutB Tryz.prog = true := by kernel_rfl
/-- It is an int. -/
def Sm (x : Int) : Prop := x < 9223372036854775808
theorem wf_i64 {x : Int} (h : (Lit.int .i64 x).wf = true) : Sm x := by
  unfold Sm
  simp only [Lit.wf, Bool.and_eq_true, decide_eq_true_eq] at h
  have e2 : IntKind.i64.max = 9223372036854775807 := by decide
  rw [e2] at h
  omega

set_option maxRecDepth 100000 in
theorem rg_cells {H : Type} {enc : TypeId × Value → H} {w : World} {base n : Nat} {spare : Nat → Bool} {held : Bool} {cs : List Value} {x : DataW H × List MemPlace} (h : DataW.trod enc Tryz.prog w base spare held n 24 cs = some x) : ∃ f t : Int, cs = [.int .i64 f, .int .i64 t] ∧ Sm f ∧ Sm t := by
  obtain ⟨ys, n', _, _, hlen, hyl, hf⟩ := DataW.trod_struct Tryz.underlying24 h
  have hlen : cs.length = 2 := hlen.trans (by kernel_rfl)
  match cs, hlen with
  | [c0, c1], _ =>
    have hy : ∀ j, j < 2 → ∃ y, ys[j]? = some y := fun j hj => ⟨_, List.getElem?_eq_getElem (by rw [hyl]; exact hj)⟩
    obtain ⟨y0, g0⟩ := hy 0 (by omega)
    obtain ⟨y1, g1⟩ := hy 1 (by omega)
    have t0 : DataW.trod enc Tryz.prog w base spare held n' 3 (([c0, c1].drop 0).take (Tryz.prog.cellsOf 3)) = some y0 := (hf 0 _ rfl).trans g0
    have t1 : DataW.trod enc Tryz.prog w base spare held n' 3 (([c0, c1].drop 1).take (Tryz.prog.cellsOf 3)) = some y1 := (hf 1 _ rfl).trans g1
    have z : Tryz.prog.cellsOf 3 = 1 := by kernel_rfl
    simp only [z, List.drop_succ_cons, List.drop_zero, List.take_succ_cons, List.take_zero] at t0 t1
    obtain ⟨q0, e0, -, w0⟩ := DataW.trod_int Tryz.underlying3 t0
    obtain ⟨q1, e1, -, w1⟩ := DataW.trod_int Tryz.underlying3 t1
    simp only [List.cons.injEq, and_true] at e0 e1
    subst e0 e1
    exact ⟨q0, q1, rfl, wf_i64 w0, wf_i64 w1⟩
set_option maxRecDepth 100000 in
theorem od_cells {H : Type} {enc : TypeId × Value → H} {w : World} {base n : Nat} {spare : Nat → Bool} {held : Bool} {cs : List Value} {x : DataW H × List MemPlace} (h : DataW.trod enc Tryz.prog w base spare held n 26 cs = some x) : ∃ o : Od, cs = o.cells.toList ∧ ∀ i, i < 5 → Sm (o.fld i) := by
  obtain ⟨ys, n', _, _, hlen, hyl, hf⟩ := DataW.trod_struct Tryz.underlying26 h
  have hlen : cs.length = 5 := hlen.trans (by kernel_rfl)
  match cs, hlen with
  | [c0, c1, c2, c3, c4], _ =>
    have hy : ∀ j, j < 4 → ∃ y, ys[j]? = some y := fun j hj => ⟨_, List.getElem?_eq_getElem (by rw [hyl]; exact hj)⟩
    obtain ⟨y0, g0⟩ := hy 0 (by omega)
    obtain ⟨y1, g1⟩ := hy 1 (by omega)
    obtain ⟨y2, g2⟩ := hy 2 (by omega)
    obtain ⟨y3, g3⟩ := hy 3 (by omega)
    have t0 : DataW.trod enc Tryz.prog w base spare held n' 3 (([c0, c1, c2, c3, c4].drop 0).take (Tryz.prog.cellsOf 3)) = some y0 := (hf 0 _ rfl).trans g0
    have t1 : DataW.trod enc Tryz.prog w base spare held n' 3 (([c0, c1, c2, c3, c4].drop 1).take (Tryz.prog.cellsOf 3)) = some y1 := (hf 1 _ rfl).trans g1
    have t2 : DataW.trod enc Tryz.prog w base spare held n' 3 (([c0, c1, c2, c3, c4].drop 2).take (Tryz.prog.cellsOf 3)) = some y2 := (hf 2 _ rfl).trans g2
    have t3 : DataW.trod enc Tryz.prog w base spare held n' 24 (([c0, c1, c2, c3, c4].drop 3).take (Tryz.prog.cellsOf 24)) = some y3 := (hf 3 _ rfl).trans g3
    have z : Tryz.prog.cellsOf 3 = 1 := by kernel_rfl
    have zm : Tryz.prog.cellsOf 24 = 2 := by kernel_rfl
    simp only [z, zm, List.drop_succ_cons, List.drop_zero, List.take_succ_cons, List.take_zero] at t0 t1 t2 t3
    obtain ⟨q0, e0, -, w0⟩ := DataW.trod_int Tryz.underlying3 t0
    obtain ⟨q1, e1, -, w1⟩ := DataW.trod_int Tryz.underlying3 t1
    obtain ⟨q2, e2, -, w2⟩ := DataW.trod_int Tryz.underlying3 t2
    obtain ⟨q3, q4, e3, w3, w4⟩ := rg_cells t3
    simp only [List.cons.injEq, and_true] at e0 e1 e2 e3
    subst e0 e1 e2
    obtain ⟨rfl, rfl⟩ := e3
    have w0 := wf_i64 w0
    have w1 := wf_i64 w1
    have w2 := wf_i64 w2
    refine ⟨⟨q0, q1, q2, q3, q4⟩, rfl, fun i hi => ?_⟩
    rcases (show i = 0 ∨ i = 1 ∨ i = 2 ∨ i = 3 ∨ i = 4 by omega) with rfl | rfl | rfl | rfl | rfl <;> assumption
set_option maxRecDepth 100000 in
theorem open_od {H : Type} {enc : TypeId × Value → H} {W : World} {base b0 : Nat} {spare : Nat → Bool} {held : Bool} {r : Reach} {v : Value} {d : DataW H} {p : List MemPlace} (hv : Value.okWide Tryz.prog W r b0 26 v) (h : DataW.Trod enc Tryz.prog W base spare held 26 v d p) : ∃ o : Od, v = o.val ∧ ∀ i, i < 5 → o.fld i ≤ 9223372036854775807 := by
  obtain ⟨cs, rfl, -⟩ := okWide_struct Tryz.underlying26 hv
  obtain ⟨fuel, hf⟩ := h
  obtain ⟨m, hm, hb⟩ := od_cells (by simpa [Value.cells] using hf)
  exact ⟨m, by rw [show cs = m.cells from Array.toList_inj.1 hm], fun i hi => by have := hb i hi; unfold Sm at this; omega⟩
set_option maxRecDepth 100000 in
theorem open_texts {H : Type} {enc : TypeId × Value → H} {W : World} {held : Bool} {spare : Nat → Bool} {v : Value} {d : DataW H} {p : List MemPlace} (hv : ∃ a len cap, v = .slice a len cap) (h : DataW.Trod enc Tryz.prog W 0 spare held 22 v d p) :
    ∃ A n c tx, v = .slice A n c ∧ n ≤ 9223372036854775807 ∧ Strs W A n tx := by
  obtain ⟨a0, len, cap, rfl⟩ := hv
  obtain ⟨fuel, hf⟩ := h
  have hf' : DataW.trod enc Tryz.prog W 0 spare held fuel 22 [.slice a0 len cap] = some (d, p) := by simpa [Value.cells] using hf
  rcases open_strings Tryz.underlying22 Tryz.underlying9 (by kernel_rfl) hf' with ⟨hc, _⟩ | ⟨a, len', cap', ss, hcs, _, hl, hm, hlen, _, hi, hz⟩
  · simp only [List.cons.injEq, Value.slice.injEq, and_true] at hc
    obtain ⟨rfl, rfl, rfl⟩ := hc
    exact ⟨none, 0, 0, fun _ => ⟨#[]⟩, rfl, by omega, fun i hi => by omega⟩
  · simp only [List.cons.injEq, Value.slice.injEq, and_true] at hcs
    obtain ⟨rfl, rfl, rfl⟩ := hcs
    have hlm : len ≤ ss.length := by rw [hlen]; split <;> omega
    refine ⟨some a, len, cap, fun i => ss.getD i ByteArray.empty, rfl, by unfold maxLen at hm; omega, fun i hlt => ?_⟩
    have hc := hi i (by omega)
    obtain ⟨b, off, spot⟩ := a
    have hspot : spot = none := by simpa [Addr.add] using World.cell?_spot (hi 0 (by omega))
    subst hspot
    rw [Go.WideShapes.add_plain] at hc
    refine ⟨b, off, rfl, cell_lt hc, hc, ?_⟩
    have := hz (ss.getD i ByteArray.empty) (by rw [List.getD_eq_getElem?_getD, List.getElem?_eq_getElem (show i < ss.length by omega)]; exact List.getElem_mem _)
    unfold maxLen at this
    omega
end Go.Proofs.YthjinpbclfankaaGreatDoor
namespace Go.Proofs.YthjinpbclfankaaGreatDoor
open Go.RowKit

theorem od_same (o : Od) (w : World) : (binOp .eql 26 o.val o.val).run Tryz.prog w = .ok (.bool true) w := by
  have hg : Tryz.prog.stoodInHeld 26 = false := by kernel_rfl
  have hf : Tryz.prog.underlying 26 = some (.struct (Tryz.prog.fieldsOf 26)) := by kernel_rfl
  rw [run_eql_struct, run_equalIn_struct w 9999 26 _ _ hf hg]
  simp [go_sem, Tryz.underlying26, Tryz.underlying3, Tryz.underlying24]
theorem od_sameN (o : Od) (w : World) : (binOp .neq 31 o.val o.val).run Tryz.prog w = .ok (.bool false) w := by
  have hg : Tryz.prog.stoodInHeld 31 = false := by kernel_rfl
  have hf : Tryz.prog.underlying 31 = some (.struct (Tryz.prog.fieldsOf 31)) := by kernel_rfl
  rw [run_neq_struct, run_equalIn_struct w 9999 31 _ _ hf hg]
  simp [go_sem, Tryz.underlying31, Tryz.underlying3, Tryz.underlying24]
set_option maxRecDepth 100000 in
set_option maxHeartbeats 4000000 in
theorem repLaw_any {w : World} {A : Option Addr} {n cap : Nat} {tx : Nat → ByteArray} (hg : ErrType w) (hS : Strs w A n tx) (hn : n ≤ 9223372036854775807) (o : Od) (hm : ∀ i, i < 5 → o.fld i ≤ 9223372036854775807) :
    Calls Tryz.prog 3 #[.slice A n cap, o.val] w fun e w' => e = .returned (.bool true) ∧ Below w.heap.size w w' := by
  have hEY := fun h : o.fits => encO_yes h
  have hEN := fun h : ¬ o.fits => encO_no h
  have hDE := fun h : o.fits => decV_enc h
  have hEA := fun (W : World) (h : ErrType W) => enc_any o W h hm
  have hRA := fun (W : World) => renc_any o W hm
  have hSA := fun (W : World) => od_same o W
  generalize hfe : encO o = en at hEY hEN hEA hRA
  clear hfe hm
  obtain ⟨ok, on, om, of, ot⟩ := o
  show Calls _ _ #[_, .agg #[.int .i64 ok, .int .i64 on, .int .i64 om, .int .i64 of, .int .i64 ot]] w _
  have hw1 : Below w.heap.size w (w.alloc (.cells #[.int .i64 ok, .int .i64 on, .int .i64 om, .int .i64 of, .int .i64 ot] 26)) := (Below.refl _ _).alloc (Nat.le_refl _) _
  have HO0 := Lib.hid (show OB 26 (w.alloc (.cells #[.int .i64 ok, .int .i64 on, .int .i64 om, .int .i64 of, .int .i64 ot] 26)) w.heap.size ⟨ok, on, om, of, ot⟩ from heap_alloc_new _ _)
  have HS := Lib.hid (fun (W : World) (hW : Below w.heap.size w W) => hS.below hW)
  have HG := Lib.hid hg
  have HW1 := Lib.hid hw1
  have HEA := Lib.hid hEA
  have HRA := Lib.hid hRA
  have HSA := Lib.hid hSA
  have HEY := Lib.hid hEY
  have HEN := Lib.hid hEN
  have HDE := Lib.hid hDE
  clear hw1 hg hS hEA hRA hSA hEY hEN hDE
  by_cases h60 : n ≤ 60
  case neg =>
    have d1 : decide ((60 : Int) < (n : Int)) = true := decide_eq_true (by omega)
    go_enter Tryz.func3, Tryz.ntmps3
    go_wp2_with fail
    go_at_call 4
    refine (shown_any _).mono ?_
    rintro e W1 ⟨rfl, hb⟩
    have HBz := Lib.hid (HW1.out.trans (hb.mono HW1.out.size))
    clear hb
    go_wp2_with fail
    go_ret
    exact ⟨rfl, HBz.out⟩
  case pos =>
  have d1 : decide ((60 : Int) < (n : Int)) = false := decide_eq_false (by omega)
  go_enter Tryz.func3, Tryz.ntmps3
  go_wp2_with fail
  go_at_call 4
  refine (shown_any _).mono ?_
  rintro e W1 ⟨rfl, hb⟩
  have HO1 := Lib.hid (HO0.out.below hb)
  have HB1 := Lib.hid (HW1.out.trans (hb.mono HW1.out.size))
  clear hb HO0 HW1
  go_wp2_with fail
  go_loopw [5] (fun iv wr => ∃ k : Nat, k ≤ n ∧ iv = .int .i64 k ∧ OB 26 wr w.heap.size ⟨ok, on, om, of, ot⟩ ∧ Below w.heap.size w wr ∧ (∀ j, j < k → (tx j).size ≤ 1024)) (fun iv _ => n - (intOf iv).toNat)
  case atStart => exact ⟨0, Nat.zero_le _, rfl, HO1.out, HB1.out, fun j hj => by omega⟩
  case round =>
    obtain ⟨k, hk, rfl, hO, hb, hsz⟩ := hrel
    clear HO1 HB1
    have HSZ := Lib.hid hsz
    clear hsz
    by_cases hlt : k < n
    case pos =>
      obtain ⟨g, off, rfl, hgl, hcl, hmx⟩ := HS.out _ hb k hlt
      have hkI : (0 : Int) ≤ (k : Int) := by omega
      have hlI : (k : Int) < (n : Int) := by omega
      have d2 : decide ((k : Int) < (n : Int)) = true := decide_eq_true hlI
      by_cases hbig : (tx k).size ≤ 1024
      case neg =>
        have d3 : decide ((1024 : Int) < ((tx k).size : Int)) = true := decide_eq_true (by omega)
        have HB := Lib.hid hb
        generalize tx k = s at hcl d3
        clear hO hb hbig hmx
        go_wp2_with fail
        go_at_call 4
        refine (shown_any _).mono ?_
        rintro e W2 ⟨rfl, hb⟩
        have HBz := Lib.hid (HB.out.trans (hb.mono HB.out.size))
        clear hb hcl
        go_wp2_with fail
        go_ret
        exact ⟨rfl, HBz.out⟩
      case pos =>
      have d3 : decide ((1024 : Int) < ((tx k).size : Int)) = false := decide_eq_false (by omega)
      have HB := Lib.hid hb
      have HO := Lib.hid hO
      have HDC := Lib.hid (fun W : World => dec_any (tx k) W (by omega))
      have HRD := Lib.hid (fun W : World => rdec_any (tx k) W)
      have HNX := Lib.hid (fun W : World => od_sameN (decO (tx k)).1 W)
      have HKB := Lib.hid hbig
      generalize hs : tx k = s at hcl d3 HDC HRD HNX hmx
      have HSE := Lib.hid hs
      generalize decO s = r at HDC HRD HNX
      obtain ⟨⟨xk, xn, xm, xf, xt⟩, er⟩ := r
      have hx1 : ∀ W : World, (binOp .neq 31 (.agg #[.int .i64 xk, .int .i64 xn, .int .i64 xm, .int .i64 xf, .int .i64 xt]) (.agg #[.int .i64 xk, .int .i64 xn, .int .i64 xm, .int .i64 xf, .int .i64 xt])).run Tryz.prog W = .ok (.bool false) W := fun W => HNX.out W
      have ee : (er != er) = false := by simp
      have HCL := Lib.hid (fun (W : World) (hW : Below wr.heap.size wr W) => (hW.cell (p := ⟨g, off + k, none⟩) hgl).trans hcl)
      clear hO hb hbig hmx hs HNX
      go_wp2_with fail
      go_at_call 5
      refine (HDC.out _).mono ?_
      rintro e W5 ⟨rfl, hb5⟩
      have hal := (Below.refl W5.heap.size W5).alloc (Nat.le_refl _) (.cells #[.int .i64 xk, .int .i64 xn, .int .i64 xm, .int .i64 xf, .int .i64 xt] 26)
      have hb6 := hb5.trans (hal.mono hb5.size)
      have HX6 := Lib.hid (show OB 26 _ W5.heap.size ⟨xk, xn, xm, xf, xt⟩ from heap_alloc_new W5 (.cells #[.int .i64 xk, .int .i64 xn, .int .i64 xm, .int .i64 xf, .int .i64 xt] 26))
      have c6 := HCL.out _ hb6
      have HB6 := Lib.hid hb6
      clear hb5 hal hb6 hcl
      go_wp2_with fail
      generalize W5.alloc (.cells #[.int .i64 xk, .int .i64 xn, .int .i64 xm, .int .i64 xf, .int .i64 xt] 26) = W6 at HX6 c6 HB6 ⊢
      go_at_call 6
      refine (HRD.out _).mono ?_
      rintro e W7 ⟨rfl, hb7⟩
      have hal := (Below.refl W7.heap.size W7).alloc (Nat.le_refl _) (.cells #[.int .i64 xk, .int .i64 xn, .int .i64 xm, .int .i64 xf, .int .i64 xt] 31)
      have hb8 := hb7.trans (hal.mono hb7.size)
      have HY8 := Lib.hid (show OB 31 _ W7.heap.size ⟨xk, xn, xm, xf, xt⟩ from heap_alloc_new W7 (.cells #[.int .i64 xk, .int .i64 xn, .int .i64 xm, .int .i64 xf, .int .i64 xt] 31))
      have HX8 := Lib.hid (HX6.out.below hb8)
      have HB8 := Lib.hid (HB6.out.trans (hb8.mono HB6.out.size))
      obtain ⟨a0, a1, a2, a3, a4⟩ := HX8.out.five
      obtain ⟨y0, y1, y2, y3, y4⟩ := HY8.out.five
      have HBr := Lib.hid (HB.out.trans (HB8.out.mono HB.out.size))
      have HOr := Lib.hid (HO.out.below HB8.out)
      clear hb7 hal hb8 c6 HX6 HB6 HB HO
      go_wp2_with fail
      go_roundw
      case rel =>
        refine ⟨k + 1, by omega, by go_num, HOr.out, HBr.out, fun j hj => ?_⟩
        rcases Nat.lt_succ_iff_lt_or_eq.1 hj with h | rfl
        · exact HSZ.out j h
        · exact HKB.out
      case measure => simp only [intOf]; omega
    case neg =>
    obtain rfl : k = n := by omega
    have d2 : decide ((k : Int) < (k : Int)) = false := decide_eq_false (by omega)
    obtain ⟨c0, c1, c2, c3, c4⟩ := hO.five
    have HB := Lib.hid hb
    have HO := Lib.hid hO
    have HGr := Lib.hid (HG.out.below hb)
    obtain ⟨es, ee⟩ := en
    clear hO hb hlt
    go_wp2_with fail
    go_at_call 7
    refine (HEA.out _ HGr.out).mono ?_
    rintro e W2 ⟨rfl, hb⟩
    have HB2 := Lib.hid (HB.out.trans (hb.mono HB.out.size))
    have HO2 := Lib.hid (HO.out.below hb)
    clear hb c0 c1 c2 c3 c4 HB HO HGr
    obtain ⟨c0, c1, c2, c3, c4⟩ := HO2.out.five
    go_wp2_with fail
    go_at_call 8
    refine (HRA.out _).mono ?_
    rintro e W3 ⟨rfl, hb⟩
    have HB3 := Lib.hid (HB2.out.trans (hb.mono HB2.out.size))
    have HO3 := Lib.hid (HO2.out.below hb)
    have HS3 := Lib.hid (HS.out _ HB3.out)
    clear hb c0 c1 c2 c3 c4 HB2 HO2
    have hrf := repN_ok tx k
    have hrw := hrf.1.few
    have e1 : (ee != ee) = false := by simp
    go_wp2_with fail
    go_at_call 11
    refine (prep_any HS3.out h60 HSZ.out).mono ?_
    rintro e W4 ⟨v4, rfl, hi4, hb⟩
    have HI4 := Lib.hid hi4
    have HB4 := Lib.hid (HB3.out.trans (hb.mono HB3.out.size))
    have HO4 := Lib.hid (HO3.out.below hb)
    clear hb hi4 HB3 HO3 HS3
    go_wp2_with fail
    go_at_call 10
    refine (theirs_any HI4.out (by omega)).mono ?_
    rintro e W5 ⟨v5, rfl, hi5, hb⟩
    have HI5 := Lib.hid hi5
    have HB5 := Lib.hid (HB4.out.trans (hb.mono HB4.out.size))
    have HO5 := Lib.hid (HO4.out.below hb)
    have HS5 := Lib.hid (HS.out _ HB5.out)
    clear hb hi5 HB4 HO4 HI4
    go_wp2_with fail
    go_at_call 12
    refine (rrep_any HS5.out h60 HSZ.out).mono ?_
    rintro e W6 ⟨v6, rfl, hi6, hb⟩
    have HI6 := Lib.hid hi6
    have HJ6 := Lib.hid (HI5.out.below hb)
    have HB6 := Lib.hid (HB5.out.trans (hb.mono HB5.out.size))
    have HO6 := Lib.hid (HO5.out.below hb)
    clear hb hi6 HB5 HO5 HI5 HS5
    go_wp2_with fail
    go_at_call 9
    refine (same12_any HJ6.out HI6.out (by omega) (by omega)).mono ?_
    rintro e W7 ⟨rfl, hb⟩
    have HB7 := Lib.hid (HB6.out.trans (hb.mono HB6.out.size))
    have HO7 := Lib.hid (HO6.out.below hb)
    clear hb HB6 HO6 HI6 HJ6 e1
    by_cases hfit : (⟨ok, on, om, of, ot⟩ : Od).fits
    · have h1 := HEY.out hfit
      have h2 := HDE.out hfit
      have h3 := encO_size (o := ⟨ok, on, om, of, ot⟩)
      simp only [Prod.mk.injEq] at h1
      obtain ⟨h1, rfl⟩ := h1
      rw [← h1] at h2 h3
      have hde := dec_any es
      rw [decO_yes h3, h2] at hde
      have HDE2 := Lib.hid (fun W : World => hde W (by omega))
      have HSA2 : ∀ W : World, (binOp .eql 26 (.agg #[.int .i64 ok, .int .i64 on, .int .i64 om, .int .i64 of, .int .i64 ot]) (.agg #[.int .i64 ok, .int .i64 on, .int .i64 om, .int .i64 of, .int .i64 ot])).run Tryz.prog W = .ok (.bool true) W := fun W => HSA.out W
      clear h1 h2 h3 hde hfit HEY HEN HDE HSA
      go_wp2_with fail
      go_at_call 5
      refine (HDE2.out _).mono ?_
      rintro e W8 ⟨rfl, hb⟩
      have hal := (Below.refl W8.heap.size W8).alloc (Nat.le_refl _) (.cells #[.int .i64 ok, .int .i64 on, .int .i64 om, .int .i64 of, .int .i64 ot] 26)
      have HO9 := Lib.hid ((HO7.out.below hb).below hal)
      have HX9 := Lib.hid (show OB 26 _ W8.heap.size ⟨ok, on, om, of, ot⟩ from heap_alloc_new W8 (.cells #[.int .i64 ok, .int .i64 on, .int .i64 om, .int .i64 of, .int .i64 ot] 26))
      have HB9 := Lib.hid ((HB7.out.trans (hb.mono HB7.out.size)).alloc (by have := hb.size; have := HB7.out.size; omega) (.cells #[.int .i64 ok, .int .i64 on, .int .i64 om, .int .i64 of, .int .i64 ot] 26))
      obtain ⟨a0, a1, a2, a3, a4⟩ := HX9.out.five
      obtain ⟨c0, c1, c2, c3, c4⟩ := HO9.out.five
      clear hb hal HB7 HO7
      go_wp2_with fail
      go_ret
      exact ⟨rfl, HB9.out⟩
    · have h1 := HEN.out hfit
      simp only [Prod.mk.injEq] at h1
      obtain ⟨rfl, rfl⟩ := h1
      have hde := dec_any ⟨#[]⟩
      rw [decO_no (s := ⟨#[]⟩) (by decide)] at hde
      have HDE2 := Lib.hid (fun W : World => hde W (by decide))
      clear hde hfit HEY HEN HDE HSA
      go_wp2_with fail
      go_at_call 5
      refine (HDE2.out _).mono ?_
      rintro e W8 ⟨rfl, hb⟩
      have HB9 := Lib.hid ((HB7.out.trans (hb.mono HB7.out.size)).alloc (by have := hb.size; have := HB7.out.size; omega) (.cells #[.int .i64 0, .int .i64 0, .int .i64 0, .int .i64 0, .int .i64 0] 26))
      clear hb HB7 HO7
      go_wp2_with fail
      go_ret
      exact ⟨rfl, HB9.out⟩
end Go.Proofs.YthjinpbclfankaaGreatDoor
namespace Go.Proofs.YthjinpbclfankaaGreatDoor
open Go.ChangeShapes Go.WideShapes Go.RowKit

set_option maxRecDepth 100000 in
theorem configReplays_lifted (os : Os) (started : os.Started) (H : Type) (enc : TypeId × Value → H) :
    ReturnsInHanded {} Tryz.checked os 3 .any (fun w args => (Rows.configReplaysSpec.pre enc Tryz.prog Tryz.f3 [] false w args ∧ laidMetH Tryz.prog [("errors.errorType", Rows.laid_errors_errorType)] w) ∧ sizedMet enc Tryz.prog Tryz.f3 (OpenSpec.ofChange Rows.configReplaysSpec) false w args)
      (Rows.configReplaysSpec.post enc Tryz.prog Tryz.f3 false true false false) := by
  refine returnsInHanded_of_change_and (C := Tryz.checked) (X := fun w _ => laidMetH Tryz.prog [("errors.errorType", Rows.laid_errors_errorType)] w) (fun _ _ _ hh h => h.of_heap hh) ownK started (by kernel_rfl) Tryz.func3
    (ChangeSpec.witness_at (enc := enc) (C := Tryz.checked) (os := os) (X := fun w _ => laidMetH Tryz.prog [("errors.errorType", Rows.laid_errors_errorType)] w) false (laidWorld os) #[.slice none 0 0, .agg #[.int .i64 0, .int .i64 0, .int .i64 0, .int .i64 0, .int .i64 0]] 8 rfl (by kernel_rfl) (by kernel_rfl) (by kernel_rfl) (by kernel_rfl) (by kernel_rfl) (laidWorld_met os _)) ?_
  intro W base args ds gs before hval0 hW _ _ hL _
  have hval : ∀ (j : Nat) t v, Tryz.f3.params[j]? = some t → args[j]? = some v → Value.okWide Tryz.prog W .any base t v := hval0
  have hW' := hW
  obtain ⟨p, q, hA0, hV0, rfl, hfz, hnd⟩ := hW
  have hA : DataW.TrodAll enc Tryz.prog W 0 (fun _ => true) true Tryz.f3.params.toList args.toList ds p := hA0
  have hV : DataW.TrodVars enc Tryz.prog W (fun _ => true) [] gs q := hV0
  rw [Tryz.params3] at hA hval
  obtain ⟨v0, vs0, d0, ds0, p0, q0, hargs, rfl, rfl, h0, r0⟩ := trodAll_cons hA
  obtain ⟨v1, vs1, d1, ds1, p1, q1, rfl, rfl, rfl, h1, r1⟩ := trodAll_cons r0
  obtain ⟨rfl, rfl, rfl⟩ := trodAll_nil r1
  obtain rfl : args = #[v0, v1] := by cases args; simp_all
  clear hargs hA hA0 hval0
  obtain ⟨rfl, rfl⟩ := novars hV
  have k0 := h0
  have k1 := h1
  obtain ⟨A0, n0, c0, s0, rfl, hn0, hS0⟩ := open_texts (okWide_slice Tryz.underlying22 (hval 0 22 v0 rfl rfl)) h0
  obtain ⟨o1, rfl, hm1⟩ := open_od (hval 1 26 v1 rfl rfl) h1
  have hg := errType_of_laid hL
  have e1 : Rows.configReplaysSpec.fn H ([d0, d1] ++ []) = { results := [.lit (.bool true)], args := [d0, d1] } := by simp [Rows.configReplaysSpec]
  have hlt0 : ∀ x ∈ p0, x.block < W.heap.size := fun x hx => hW'.lt x (by simp [hx])
  have hlt1 : ∀ x ∈ p1, x.block < W.heap.size := fun x hx => hW'.lt x (by simp [hx])
  refine (repLaw_any hg hS0 hn0 o1 hm1).mono fun e W' ⟨he, hb⟩ => ?_
  subst he
  refine ⟨_, rfl, _, _, _, [], p0 ++ (p1 ++ ([])), [], hW', ?_, ?_, ?_, hb.frame _, fun h => by cases h⟩
  · rw [e1]; exact trodAll_mk1 (shut_bool Tryz.underlying4 true)
  · rw [e1]; exact (trodAll_cons_mk (Below.trod laidOutK (by kernel_rfl) (of_decide_eq_true (by kernel_rfl)) k0 hb hlt0) (trodAll_cons_mk (Below.trod laidOutK (by kernel_rfl) (of_decide_eq_true (by kernel_rfl)) k1 hb hlt1) trodAll_mk0))
  · rw [e1]; rfl

theorem configReplays_holds : Rows.ConfigReplaysSaid :=
  OpenClaim.holds_of_wide 3 Tryz.f3 rfl rfl rfl rfl rfl rfl rfl ⟨rfl, rfl, rfl, rfl, rfl⟩ rfl rfl rfl rfl rfl (by kernel_rfl) Tryz.func3 (by kernel_rfl)
    (of_decide_eq_true (by kernel_rfl)) (by unfold Func.isWrapper; rw [if_neg (of_decide_eq_false (by kernel_rfl))]; exact ⟨rfl, rfl⟩)
    (fun os started H enc _ => configReplays_lifted os started H enc)

/-- The card: the row, its listed variable tied to the program's text. -/
theorem configReplays_card : Rows.ConfigReplaysCardSaid :=
  Claim7.holds_tied_plain_at .later [] [.handle] true Rows.configReplaysCard.stood.harness true
    configReplays_holds (fun _ h => by cases h) (by kernel_rfl) (fun _ h => by cases h) configReplays_row_tie rfl ⟨rfl, rfl⟩ (by kernel_rfl) rfl
    (fun f fn hf hfn => by
      obtain rfl : f = 3 := Option.some.inj ((show Tryz.prog.funcNamed "weirkeep/weirkeeplaw12.ConfigReplays" = some 3 by kernel_rfl).symm.trans hf) |>.symm
      obtain rfl : fn = Tryz.f3 := (Option.some.inj (Tryz.func3.symm.trans hfn)).symm
      exact ⟨by kernel_rfl, fun j t ht => by
        rw [Tryz.params3] at ht
        have h3 : t = 22 ∨ t = 26 := by
          rcases j with _ | _ | j
          · exact .inl (by simpa using ht.symm)
          · exact .inr (by simpa using ht.symm)
          · simp at ht
        rcases h3 with rfl | rfl
        · exact (show Tryz.prog.wantsStandIn 22 = false by kernel_rfl)
        · exact (show Tryz.prog.wantsStandIn 26 = false by kernel_rfl)⟩)
    (by kernel_rfl)
#print axioms configReplays_card
end Go.Proofs.YthjinpbclfankaaGreatDoor
