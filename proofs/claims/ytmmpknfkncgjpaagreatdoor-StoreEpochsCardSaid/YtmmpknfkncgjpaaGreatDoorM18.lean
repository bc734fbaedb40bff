/-
  numbers (package wire), by a contract: the list of a message's numbers, in memory of its own.

  Check (package wire), by a contract: what is wrong with a message, as a function of it.

  Reply (package wire) and the document's own, by contracts.

  What the two listed variables' condition gives: check.halves lies as it is written out, errors.errorType holds the handle of 'error'; a world that meets the condition.

  The document's own Check (weirkeepref03), by a contract; when two messages are the same.
-/
import Derived.Test.YtmmpknfkncgjpaaGreatDoorProg
import Derived.WalkKit
import Derived.BigRegion
import Derived.Handy
import Derived.Lib.Hide
import Derived.LoopTactic
import Derived.Deep.QuietTactic
import Derived.BigQuiet
import Derived.WalkSmall
import Derived.Test.YtmmpknfkncgjpaaGreatDoorRows
import Derived.Test.YtmmpknfkncgjpaaGreatDoorCards
import Derived.Test.YtmmpknfkncgjpaaGreatDoorTie
import Derived.Test.YtmmpknfkncgjpaaGreatDoorM09
import Derived.Test.YtmmpknfkncgjpaaGreatDoorM16
import Derived.ChangeSame
import Derived.ChangeVars
import Derived.JoinedOf
import Derived.RowKit
import Derived.RowKitTokens
import Derived.LaidLaws
import Derived.LaidHandle
import Derived.LaidMore
import Derived.MakeChecks
import Derived.Stop.Joined
import Derived.SevenTiedAt
import Derived.OpenShut
import Derived.ProofKit
import Derived.Test.YtmmpknfkncgjpaaGreatDoorM17
import Derived.Laws.StructEq
namespace Go.Proofs.YtmmpknfkncgjpaaGreatDoor
open Go.RowKit

/-- The cells of the list of the numbers of the message in block b. -/
def numCells (b : Nat) : Array Value := #[.pointer (some ⟨b, 0, none⟩), .int .i64 1, .int .i64 255, .pointer (some ⟨b, 1, none⟩), .int .i64 1, .int .i64 7, .pointer (some ⟨b, 2, none⟩), .int .i64 1, .int .i64 7,
  .pointer (some ⟨b, 3, none⟩), .int .i64 8, .int .i64 1099511627776, .pointer (some ⟨b, 4, none⟩), .int .i64 8, .int .i64 1099511627776, .pointer (some ⟨b, 5, none⟩), .int .i64 2, .int .i64 256, .pointer (some ⟨b, 6, none⟩), .int .i64 2, .int .i64 256]

set_option maxRecDepth 100000 in
set_option maxHeartbeats 2000000 in
theorem numbers_any (b : Nat) (w : World) :
    Calls Tryz.prog 91 #[.pointer (some ⟨b, 0, none⟩)] w fun e w' => e = .returned (.slice (some ⟨w.heap.size, 0, none⟩) 7 7) ∧ w' = w.drew.alloc (.cells (numCells b) 165) := by
  go_enter Tryz.func91, Tryz.ntmps91
  go_wp2
  go_region
  go_wp2
  go_ret
  exact ⟨rfl, rfl⟩
end Go.Proofs.YtmmpknfkncgjpaaGreatDoor

namespace Go.Proofs.YtmmpknfkncgjpaaGreatDoor
open Go.RowKit

/-- A message. -/
structure M where
  kind : Int
  src : Int
  dst : Int
  epoch : Int
  seq : Int
  off : Int
  len : Int
  data : ByteArray
@[reducible] def M.val (m : M) : Value := .agg #[.int .i64 m.kind, .int .i64 m.src, .int .i64 m.dst, .int .i64 m.epoch, .int .i64 m.seq, .int .i64 m.off, .int .i64 m.len, .string m.data]
@[reducible] def M.cells (m : M) : Array Value := #[.int .i64 m.kind, .int .i64 m.src, .int .i64 m.dst, .int .i64 m.epoch, .int .i64 m.seq, .int .i64 m.off, .int .i64 m.len, .string m.data]
/-- The number that stands at place i. -/
def M.fld (m : M) : Nat → Int
  | 0 => m.kind
  | 1 => m.src
  | 2 => m.dst
  | 3 => m.epoch
  | 4 => m.seq
  | 5 => m.off
  | _ => m.len
/-- How great it may be, and how many bytes it has. -/
def great : Nat → Int
  | 0 => 255
  | 1 => 7
  | 2 => 7
  | 3 => 1099511627776
  | 4 => 1099511627776
  | _ => 256
def wid : Nat → Int
  | 0 => 1
  | 1 => 1
  | 2 => 1
  | 3 => 8
  | 4 => 8
  | _ => 2
def M.okN (m : M) (i : Nat) : Prop := 0 ≤ m.fld i ∧ m.fld i ≤ great i
/-- Check's answer. -/
def M.chk (m : M) : Int :=
  if 0 ≤ m.kind ∧ m.kind ≤ 255 ∧ 0 ≤ m.src ∧ m.src ≤ 7 ∧ 0 ≤ m.dst ∧ m.dst ≤ 7 ∧ 0 ≤ m.epoch ∧ m.epoch ≤ 1099511627776 ∧ 0 ≤ m.seq ∧ m.seq ≤ 1099511627776 ∧ 0 ≤ m.off ∧ m.off ≤ 256 ∧ 0 ≤ m.len ∧ m.len ≤ 256 then
    (if m.data.size ≤ 1024 then 0 else 11) else 1
theorem M.chk_bad (m : M) (i : Nat) (hi : i < 7) (h : ¬ m.okN i) : m.chk = 1 := by
  unfold M.chk
  rw [if_neg]
  intro hc
  apply h
  rcases i with _ | _ | _ | _ | _ | _ | _ | i
  all_goals first | (simp only [M.okN, M.fld, great]; omega) | omega
theorem M.chk_all (m : M) (h : ∀ i, i < 7 → m.okN i) : m.chk = if m.data.size ≤ 1024 then 0 else 11 := by
  unfold M.chk
  rw [if_pos]
  have h0 := h 0 (by omega)
  have h1 := h 1 (by omega)
  have h2 := h 2 (by omega)
  have h3 := h 3 (by omega)
  have h4 := h 4 (by omega)
  have h5 := h 5 (by omega)
  have h6 := h 6 (by omega)
  simp only [M.okN, M.fld, great] at h0 h1 h2 h3 h4 h5 h6
  omega

theorem cell_lt3 {w : World} {b o : Nat} {v : Value} (h : w.cell? ⟨b, o, none⟩ = some v) : b < w.heap.size := by
  rcases Nat.lt_or_ge b w.heap.size with h1 | h1
  · exact h1
  · simp [World.cell?, Array.getElem?_eq_none h1] at h

/-- The message m lies in block b. -/
def Mat (w : World) (b : Nat) (m : M) : Prop := (∀ i, i < 7 → w.cell? ⟨b, i, none⟩ = some (.int .i64 (m.fld i))) ∧ w.cell? ⟨b, 7, none⟩ = some (.string m.data)
theorem Mat.lt {w : World} {b : Nat} {m : M} (h : Mat w b m) : b < w.heap.size := cell_lt3 h.2
theorem Mat.belowB {w w' : World} {B : Nat} (hb : Below B w w') {b : Nat} {m : M} (hB : b < B) (h : Mat w b m) : Mat w' b m :=
  ⟨fun i hi => by rw [hb.cell (p := ⟨b, i, none⟩) hB]; exact h.1 i hi, by rw [hb.cell (p := ⟨b, 7, none⟩) hB]; exact h.2⟩
theorem Mat.below {w w' : World} (hb : Below w.heap.size w w') {b : Nat} {m : M} (h : Mat w b m) : Mat w' b m := h.belowB hb h.lt
theorem Mat.fresh (w : World) (m : M) (t : TypeId) : Mat (w.alloc (.cells m.cells t)) w.heap.size m := by
  refine ⟨fun i hi => ?_, by simp [M.cells]⟩
  rcases i with _ | _ | _ | _ | _ | _ | _ | i
  all_goals first | (simp [M.cells, M.fld]; done) | omega
/-- The list of the numbers of block b lies in block n. -/
def Nat3 (w : World) (n b : Nat) : Prop := ∀ i, i < 7 → w.cell? ⟨n, i * 3, none⟩ = some (.pointer (some ⟨b, i, none⟩)) ∧ w.cell? ⟨n, i * 3 + 1, none⟩ = some (.int .i64 (wid i)) ∧ w.cell? ⟨n, i * 3 + 2, none⟩ = some (.int .i64 (great i))
theorem Nat3.belowB {w w' : World} {B : Nat} (hb : Below B w w') {n b : Nat} (hB : n < B) (h : Nat3 w n b) : Nat3 w' n b := fun i hi =>
  ⟨by rw [hb.cell (p := ⟨n, i * 3, none⟩) hB]; exact (h i hi).1, by rw [hb.cell (p := ⟨n, i * 3 + 1, none⟩) hB]; exact (h i hi).2.1, by rw [hb.cell (p := ⟨n, i * 3 + 2, none⟩) hB]; exact (h i hi).2.2⟩
theorem Nat3.lt {w : World} {n b : Nat} (h : Nat3 w n b) : n < w.heap.size := cell_lt3 (h 0 (by omega)).1
theorem Nat3.below {w w' : World} (hb : Below w.heap.size w w') {n b : Nat} (h : Nat3 w n b) : Nat3 w' n b := h.belowB hb h.lt
theorem Nat3.fresh (w : World) (b : Nat) (t : TypeId) : Nat3 (w.alloc (.cells (numCells b) t)) w.heap.size b := by
  intro i hi
  rcases i with _ | _ | _ | _ | _ | _ | _ | i
  all_goals first | (simp [numCells, wid, great]; done) | omega
theorem numbers_at (b : Nat) (w : World) :
    Calls Tryz.prog 91 #[.pointer (some ⟨b, 0, none⟩)] w fun e w' => e = .returned (.slice (some ⟨w.heap.size, 0, none⟩) 7 7) ∧ Nat3 w' w.heap.size b ∧ Below w.heap.size w w' := by
  refine (numbers_any b w).mono ?_
  rintro e w' ⟨rfl, rfl⟩
  exact ⟨rfl, Nat3.fresh w.drew b _, ((Below.refl _ _).drew).alloc (Nat.le_refl _) _⟩

set_option maxRecDepth 100000 in
set_option maxHeartbeats 2000000 in
theorem check_any (m : M) (w : World) :
    Calls Tryz.prog 58 #[m.val] w fun e w' => e = .returned (.int .i64 m.chk) ∧ Below w.heap.size w w' := by
  have HB0 := Lib.hid (show Below w.heap.size w (w.alloc (.cells m.cells 31)) from (Below.refl _ _).alloc (Nat.le_refl _) _)
  have HM0 := Lib.hid (Mat.fresh w m 31)
  go_enter Tryz.func58, Tryz.ntmps58
  go_wp2_with fail
  go_at_call 91
  refine (numbers_at _ _).mono ?_
  rintro e w1 ⟨rfl, hn1, hb1⟩
  have HM1 := Lib.hid (HM0.out.below hb1)
  have HB1 := Lib.hid (HB0.out.trans (hb1.mono HB0.out.size))
  have HN1 := Lib.hid hn1
  have hbl := HM1.out.lt
  have hnl := HN1.out.lt
  generalize (w.alloc (.cells m.cells 31)).heap.size = n at *
  clear HM0 HB0 hn1 hb1
  go_wp2
  go_loopw [7] (fun iv wr => ∃ i : Nat, i ≤ 7 ∧ iv = .int .i64 i ∧ (∀ j, j < i → m.okN j) ∧ Below w1.heap.size w1 wr) (fun iv _ => 7 - (intOf iv).toNat)
  case atStart => exact ⟨0, by omega, rfl, fun j hj => by omega, Below.refl _ _⟩
  case round =>
    obtain ⟨i, hi, rfl, hall, hb⟩ := hrel
    have HALL := Lib.hid hall
    have HB := Lib.hid hb
    have hz := hb.size
    have hM := HM1.out.belowB hb hbl
    have hN := HN1.out.belowB hb hnl
    clear hall hb
    by_cases hlt : i < 7
    · obtain ⟨c0, c1, c2⟩ := hN i hlt
      have f0 := hM.1 i hlt
      have hiI : (i : Int) < 7 := by omega
      have hi0 : (0 : Int) ≤ (i : Int) := by omega
      have hbw : w.heap.size < wr.heap.size := by omega
      have hnw : n < wr.heap.size := by omega
      clear hM hN
      generalize hv : m.fld i = v at f0
      generalize hgr : great i = g at c2
      have HV := Lib.hid hv
      have HGR := Lib.hid hgr
      clear hv hgr
      by_cases hneg : v < 0
      · have hd : decide (v < 0) = true := by simpa using hneg
        go_wp2
        go_quiet (fail)
        go_wp2
        go_ret
        have hc := m.chk_bad i hlt (fun h => by have := h.1; rw [HV.out] at this; omega)
        exact ⟨by rw [hc]; rfl, HB1.out.trans (below_drewN (HB.out.alloc hz _) _ |>.mono HB1.out.size)⟩
      · have hd : decide (v < 0) = false := by simpa using hneg
        by_cases hbig : g < v
        · have hd2 : decide (g < v) = true := by simpa using hbig
          go_wp2
          go_quiet (fail)
          go_wp2
          go_ret
          have hc := m.chk_bad i hlt (fun h => by have := h.2; rw [HV.out, HGR.out] at this; omega)
          exact ⟨by rw [hc]; rfl, HB1.out.trans (below_drewN (HB.out.alloc hz _) _ |>.mono HB1.out.size)⟩
        · have hd2 : decide (g < v) = false := by simpa using hbig
          go_wp2
          go_quiet (fail)
          go_wp2
          go_roundw
          case rel =>
            refine ⟨i + 1, by omega, by go_num, fun j hj => ?_, below_drewN (HB.out.alloc hz _) _⟩
            by_cases hji : j = i
            · subst hji
              exact ⟨by rw [HV.out]; omega, by rw [HV.out, HGR.out]; omega⟩
            · exact HALL.out j (by omega)
          case measure => simp [intOf]; omega
    · have hc := m.chk_all (fun j hj => HALL.out j (by omega))
      have hiI : ¬ (i : Int) < 7 := by omega
      have f7 := hM.2
      have HC := Lib.hid hc
      clear hM hN hc
      by_cases hs : m.data.size ≤ 1024
      · have hsI : (m.data.size : Int) ≤ 1024 := by omega
        go_wp2
        go_ret
        exact ⟨by rw [HC.out, if_pos hs]; rfl, HB1.out.trans (HB.out.mono HB1.out.size)⟩
      · have hsI : (1024 : Int) < (m.data.size : Int) := by omega
        go_wp2
        go_ret
        exact ⟨by rw [HC.out, if_neg hs]; rfl, HB1.out.trans (HB.out.mono HB1.out.size)⟩
end Go.Proofs.YtmmpknfkncgjpaaGreatDoor

namespace Go.Proofs.YtmmpknfkncgjpaaGreatDoor
open Go.RowKit

@[reducible] def M.reply (m : M) (k : Int) : M := ⟨k, m.dst, m.src, m.epoch, m.seq, 0, 0, ⟨#[]⟩⟩

set_option maxRecDepth 100000 in
theorem reply_any (m : M) (k : Int) (w : World) :
    Calls Tryz.prog 59 #[m.val, .int .i64 k] w fun e w' => e = .returned (m.reply k).val ∧ Below w.heap.size w w' := by
  go_enter Tryz.func59, Tryz.ntmps59
  go_wp2
  go_returns
  exact ⟨rfl, by go_grown⟩
end Go.Proofs.YtmmpknfkncgjpaaGreatDoor

namespace Go.Proofs.YtmmpknfkncgjpaaGreatDoor
open Go.ChangeShapes Go.WideShapes Go.RowKit

theorem ownK : ownKnob Tryz.prog.godebug = none := by kernel_rfl
theorem tabK : Tryz.prog.globalNamed "weirkeep/check.halves" = some 1 := by kernel_rfl
theorem tabTypeK : (Tryz.prog.globals[1]?).map (·.type) = some 297 := by kernel_rfl
theorem tabEq : (Rows.laid_weirkeep_check_halves : DataW Unit) = Lib.tabData .u32 (tabL.map (fun n : Nat => (n : Int))) := rfl
theorem etK : Tryz.prog.globalNamed "errors.errorType" = some 0 := by kernel_rfl
theorem rtK : (Tryz.prog.cutTypes.find? (·.1 == "internal/reflectlite.rtype")).map (·.2) = some 256 := by kernel_rfl
theorem oneRowK : ((List.range Tryz.prog.types.size).filter fun t => Tryz.prog.rowNamed t [101, 114, 114, 111, 114]) = [93] := by kernel_rfl

/-- What the condition gives a walk. -/
theorem both_of_laid {W : World} (h : laidMetH Tryz.prog [("weirkeep/check.halves", Rows.laid_weirkeep_check_halves), ("errors.errorType", Rows.laid_errors_errorType)] W) : Tab W ∧ ErrType W := by
  have h' : laidMet Tryz.prog [("weirkeep/check.halves", Rows.laid_weirkeep_check_halves)] W ∧ handlesMet Tryz.prog [("errors.errorType", Rows.laid_errors_errorType)] W := h
  refine ⟨?_, ?_⟩
  · have h1 := h'.1
    rw [tabEq] at h1
    have hT := Lib.tabIs_of_head tabK tabTypeK Tryz.underlying297 Tryz.underlying231 (by kernel_rfl) (by kernel_rfl) h1
    intro i hi
    have hc := hT.cell tabK i (by simpa [tabL] using hi)
    rw [hc]
    have hl : i < tabL.length := by simpa [tabL] using hi
    simp [tabH, List.getD, hl]
  · obtain ⟨name, u, ty, e1, e2, e3, e4, e5⟩ := h'.2 _ (List.mem_singleton.2 rfl)
    have en : name = [101, 114, 114, 111, 114] := (Option.some.inj e1).symm
    subst en
    obtain rfl := Option.some.inj (rtK.symm.trans e2)
    have hm : ty ∈ (List.range Tryz.prog.types.size).filter fun t => Tryz.prog.rowNamed t [101, 114, 114, 111, 114] := List.mem_filter.2 ⟨List.mem_range.2 e3, e4⟩
    rw [oneRowK] at hm
    obtain rfl := List.mem_singleton.1 hm
    have hh : typeHandle Tryz.prog 93 = .pointer (some ⟨3, 93, none⟩) := by kernel_rfl
    rw [hh] at e5
    simpa [ErrType] using World.var?_cell etK e5 0

/-- The door's own heap meets the condition. -/
theorem doorBoth_met (os : Os) (args : Array Value) : laidMetH Tryz.prog [("weirkeep/check.halves", Rows.laid_weirkeep_check_halves), ("errors.errorType", Rows.laid_errors_errorType)] ((World.doorLaid Tryz.prog 400 os).forCall (fun _ _ => 0) ⟨#[], args, []⟩).memory :=
  laidMetH_of_parts3 (fuel := 8) (laidMet_of_run' 8 (by kernel_rfl) (by kernel_rfl)) (by kernel_rfl) (by kernel_rfl)
end Go.Proofs.YtmmpknfkncgjpaaGreatDoor

namespace Go.Proofs.YtmmpknfkncgjpaaGreatDoor
open Go.RowKit

def inB (n k : Int) : Bool := decide (0 ≤ n) && decide (n ≤ k)
theorem inB_iff {n k : Int} : inB n k = true ↔ 0 ≤ n ∧ n ≤ k := by simp [inB]
theorem in_any (n k : Int) (w : World) :
    Calls Tryz.prog 99 #[.int .i64 n, .int .i64 k] w fun e w' => e = .returned (.bool (inB n k)) ∧ w = w' := by
  by_cases h0 : 0 ≤ n
  · by_cases h1 : n ≤ k
    · have e : inB n k = true := inB_iff.2 ⟨h0, h1⟩
      rw [e]
      go_enter Tryz.func99, Tryz.ntmps99
      go_wp2
      go_ret
      exact ⟨rfl, rfl⟩
    · have e : inB n k = false := by simp [inB]; omega
      rw [e]
      go_enter Tryz.func99, Tryz.ntmps99
      go_wp2
      go_ret
      exact ⟨rfl, rfl⟩
  · have e : inB n k = false := by simp [inB]; omega
    rw [e]
    go_enter Tryz.func99, Tryz.ntmps99
    go_wp2
    go_ret
    exact ⟨rfl, rfl⟩
theorem M.chk_in (m : M) : m.chk = if inB m.kind 255 = true ∧ inB m.src 7 = true ∧ inB m.dst 7 = true ∧ inB m.epoch 1099511627776 = true ∧ inB m.seq 1099511627776 = true ∧ inB m.off 256 = true ∧ inB m.len 256 = true then (if m.data.size ≤ 1024 then 0 else 11) else 1 := by
  unfold M.chk
  simp only [inB_iff]
  congr 1
  apply propext
  constructor
  · intro h; refine ⟨?_, ?_, ?_, ?_, ?_, ?_, ?_⟩ <;> omega
  · intro h; omega
theorem rchk_bad0 (m : M) (w : World)  (h : inB m.kind 255 = false) :
    Calls Tryz.prog 68 #[m.val] w fun e w' => e = .returned (.int .i64 1) ∧ Below w.heap.size w w' := by
  go_enter Tryz.func68, Tryz.ntmps68
  go_wp2_with (go_at_call 99; refine (in_any _ _ _).mono ?_; rintro e w' ⟨rfl, rfl⟩)
  go_ret
  exact ⟨rfl, by go_grown⟩
theorem rchk_bad1 (m : M) (w : World) (h0 : inB m.kind 255 = true) (h : inB m.src 7 = false) :
    Calls Tryz.prog 68 #[m.val] w fun e w' => e = .returned (.int .i64 1) ∧ Below w.heap.size w w' := by
  go_enter Tryz.func68, Tryz.ntmps68
  go_wp2_with (go_at_call 99; refine (in_any _ _ _).mono ?_; rintro e w' ⟨rfl, rfl⟩)
  go_ret
  exact ⟨rfl, by go_grown⟩
theorem rchk_bad2 (m : M) (w : World) (h0 : inB m.kind 255 = true) (h1 : inB m.src 7 = true) (h : inB m.dst 7 = false) :
    Calls Tryz.prog 68 #[m.val] w fun e w' => e = .returned (.int .i64 1) ∧ Below w.heap.size w w' := by
  go_enter Tryz.func68, Tryz.ntmps68
  go_wp2_with (go_at_call 99; refine (in_any _ _ _).mono ?_; rintro e w' ⟨rfl, rfl⟩)
  go_ret
  exact ⟨rfl, by go_grown⟩
theorem rchk_bad3 (m : M) (w : World) (h0 : inB m.kind 255 = true) (h1 : inB m.src 7 = true) (h2 : inB m.dst 7 = true) (h : inB m.epoch 1099511627776 = false) :
    Calls Tryz.prog 68 #[m.val] w fun e w' => e = .returned (.int .i64 1) ∧ Below w.heap.size w w' := by
  go_enter Tryz.func68, Tryz.ntmps68
  go_wp2_with (go_at_call 99; refine (in_any _ _ _).mono ?_; rintro e w' ⟨rfl, rfl⟩)
  go_ret
  exact ⟨rfl, by go_grown⟩
theorem rchk_bad4 (m : M) (w : World) (h0 : inB m.kind 255 = true) (h1 : inB m.src 7 = true) (h2 : inB m.dst 7 = true) (h3 : inB m.epoch 1099511627776 = true) (h : inB m.seq 1099511627776 = false) :
    Calls Tryz.prog 68 #[m.val] w fun e w' => e = .returned (.int .i64 1) ∧ Below w.heap.size w w' := by
  go_enter Tryz.func68, Tryz.ntmps68
  go_wp2_with (go_at_call 99; refine (in_any _ _ _).mono ?_; rintro e w' ⟨rfl, rfl⟩)
  go_ret
  exact ⟨rfl, by go_grown⟩
theorem rchk_bad5 (m : M) (w : World) (h0 : inB m.kind 255 = true) (h1 : inB m.src 7 = true) (h2 : inB m.dst 7 = true) (h3 : inB m.epoch 1099511627776 = true) (h4 : inB m.seq 1099511627776 = true) (h : inB m.off 256 = false) :
    Calls Tryz.prog 68 #[m.val] w fun e w' => e = .returned (.int .i64 1) ∧ Below w.heap.size w w' := by
  go_enter Tryz.func68, Tryz.ntmps68
  go_wp2_with (go_at_call 99; refine (in_any _ _ _).mono ?_; rintro e w' ⟨rfl, rfl⟩)
  go_ret
  exact ⟨rfl, by go_grown⟩
theorem rchk_bad6 (m : M) (w : World) (h0 : inB m.kind 255 = true) (h1 : inB m.src 7 = true) (h2 : inB m.dst 7 = true) (h3 : inB m.epoch 1099511627776 = true) (h4 : inB m.seq 1099511627776 = true) (h5 : inB m.off 256 = true) (h : inB m.len 256 = false) :
    Calls Tryz.prog 68 #[m.val] w fun e w' => e = .returned (.int .i64 1) ∧ Below w.heap.size w w' := by
  go_enter Tryz.func68, Tryz.ntmps68
  go_wp2_with (go_at_call 99; refine (in_any _ _ _).mono ?_; rintro e w' ⟨rfl, rfl⟩)
  go_ret
  exact ⟨rfl, by go_grown⟩
theorem rchk_ok (m : M) (w : World) (h0 : inB m.kind 255 = true) (h1 : inB m.src 7 = true) (h2 : inB m.dst 7 = true) (h3 : inB m.epoch 1099511627776 = true) (h4 : inB m.seq 1099511627776 = true) (h5 : inB m.off 256 = true) (h6 : inB m.len 256 = true) (hs : m.data.size ≤ 1024) :
    Calls Tryz.prog 68 #[m.val] w fun e w' => e = .returned (.int .i64 0) ∧ Below w.heap.size w w' := by
  have hsI : (m.data.size : Int) ≤ 1024 := by omega
  go_enter Tryz.func68, Tryz.ntmps68
  go_wp2_with (go_at_call 99; refine (in_any _ _ _).mono ?_; rintro e w' ⟨rfl, rfl⟩)
  go_ret
  exact ⟨rfl, by go_grown⟩
theorem rchk_long (m : M) (w : World) (h0 : inB m.kind 255 = true) (h1 : inB m.src 7 = true) (h2 : inB m.dst 7 = true) (h3 : inB m.epoch 1099511627776 = true) (h4 : inB m.seq 1099511627776 = true) (h5 : inB m.off 256 = true) (h6 : inB m.len 256 = true) (hs : ¬ m.data.size ≤ 1024) :
    Calls Tryz.prog 68 #[m.val] w fun e w' => e = .returned (.int .i64 11) ∧ Below w.heap.size w w' := by
  have hsI : (1024 : Int) < (m.data.size : Int) := by omega
  go_enter Tryz.func68, Tryz.ntmps68
  go_wp2_with (go_at_call 99; refine (in_any _ _ _).mono ?_; rintro e w' ⟨rfl, rfl⟩)
  go_ret
  exact ⟨rfl, by go_grown⟩
theorem rcheck_any (m : M) (w : World) :
    Calls Tryz.prog 68 #[m.val] w fun e w' => e = .returned (.int .i64 m.chk) ∧ Below w.heap.size w w' := by
  by_cases h0 : inB m.kind 255 = true
  case neg =>
    have hc : m.chk = 1 := by rw [m.chk_in, if_neg]; intro h; exact h0 h.1
    rw [hc]; exact rchk_bad0 m w  (by simpa using h0)
  by_cases h1 : inB m.src 7 = true
  case neg =>
    have hc : m.chk = 1 := by rw [m.chk_in, if_neg]; intro h; exact h1 h.2.1
    rw [hc]; exact rchk_bad1 m w h0 (by simpa using h1)
  by_cases h2 : inB m.dst 7 = true
  case neg =>
    have hc : m.chk = 1 := by rw [m.chk_in, if_neg]; intro h; exact h2 h.2.2.1
    rw [hc]; exact rchk_bad2 m w h0 h1 (by simpa using h2)
  by_cases h3 : inB m.epoch 1099511627776 = true
  case neg =>
    have hc : m.chk = 1 := by rw [m.chk_in, if_neg]; intro h; exact h3 h.2.2.2.1
    rw [hc]; exact rchk_bad3 m w h0 h1 h2 (by simpa using h3)
  by_cases h4 : inB m.seq 1099511627776 = true
  case neg =>
    have hc : m.chk = 1 := by rw [m.chk_in, if_neg]; intro h; exact h4 h.2.2.2.2.1
    rw [hc]; exact rchk_bad4 m w h0 h1 h2 h3 (by simpa using h4)
  by_cases h5 : inB m.off 256 = true
  case neg =>
    have hc : m.chk = 1 := by rw [m.chk_in, if_neg]; intro h; exact h5 h.2.2.2.2.2.1
    rw [hc]; exact rchk_bad5 m w h0 h1 h2 h3 h4 (by simpa using h5)
  by_cases h6 : inB m.len 256 = true
  case neg =>
    have hc : m.chk = 1 := by rw [m.chk_in, if_neg]; intro h; exact h6 h.2.2.2.2.2.2
    rw [hc]; exact rchk_bad6 m w h0 h1 h2 h3 h4 h5 (by simpa using h6)
  by_cases hs : m.data.size ≤ 1024
  · have hc : m.chk = 0 := by rw [m.chk_in, if_pos ⟨h0, h1, h2, h3, h4, h5, h6⟩, if_pos hs]
    rw [hc]; exact rchk_ok m w h0 h1 h2 h3 h4 h5 h6 hs
  · have hc : m.chk = 11 := by rw [m.chk_in, if_pos ⟨h0, h1, h2, h3, h4, h5, h6⟩, if_neg hs]
    rw [hc]; exact rchk_long m w h0 h1 h2 h3 h4 h5 h6 hs

theorem msg_same (m : M) (w : World) : (binOp .eql 31 m.val m.val).run Tryz.prog w = .ok (.bool true) w := by
  have hg : Tryz.prog.stoodInHeld 31 = false := by kernel_rfl
  have hf : Tryz.prog.underlying 31 = some (.struct (Tryz.prog.fieldsOf 31)) := by kernel_rfl
  rw [run_eql_struct, run_equalIn_struct w 9999 31 _ _ hf hg]
  simp [go_sem, Tryz.underlying31, Tryz.underlying3, Tryz.underlying9]
theorem msg_sameN (m : M) (w : World) : (binOp .neq 31 m.val m.val).run Tryz.prog w = .ok (.bool false) w := by
  have hg : Tryz.prog.stoodInHeld 31 = false := by kernel_rfl
  have hf : Tryz.prog.underlying 31 = some (.struct (Tryz.prog.fieldsOf 31)) := by kernel_rfl
  rw [run_neq_struct, run_equalIn_struct w 9999 31 _ _ hf hg]
  simp [go_sem, Tryz.underlying31, Tryz.underlying3, Tryz.underlying9]
theorem msg_other (m n : M) (w : World) (h : m ≠ n) : (binOp .eql 31 m.val n.val).run Tryz.prog w = .ok (.bool false) w := by
  have hg : Tryz.prog.stoodInHeld 31 = false := by kernel_rfl
  have hf : Tryz.prog.underlying 31 = some (.struct (Tryz.prog.fieldsOf 31)) := by kernel_rfl
  rw [run_eql_struct, run_equalIn_struct w 9999 31 _ _ hf hg]
  obtain ⟨a0, a1, a2, a3, a4, a5, a6, a7⟩ := m
  obtain ⟨b0, b1, b2, b3, b4, b5, b6, b7⟩ := n
  by_cases h0 : a0 = b0
  case neg => simp [go_sem, Tryz.underlying31, Tryz.underlying3, Tryz.underlying9, h0]
  by_cases h1 : a1 = b1
  case neg => simp [go_sem, Tryz.underlying31, Tryz.underlying3, Tryz.underlying9, h0, h1]
  by_cases h2 : a2 = b2
  case neg => simp [go_sem, Tryz.underlying31, Tryz.underlying3, Tryz.underlying9, h0, h1, h2]
  by_cases h3 : a3 = b3
  case neg => simp [go_sem, Tryz.underlying31, Tryz.underlying3, Tryz.underlying9, h0, h1, h2, h3]
  by_cases h4 : a4 = b4
  case neg => simp [go_sem, Tryz.underlying31, Tryz.underlying3, Tryz.underlying9, h0, h1, h2, h3, h4]
  by_cases h5 : a5 = b5
  case neg => simp [go_sem, Tryz.underlying31, Tryz.underlying3, Tryz.underlying9, h0, h1, h2, h3, h4, h5]
  by_cases h6 : a6 = b6
  case neg => simp [go_sem, Tryz.underlying31, Tryz.underlying3, Tryz.underlying9, h0, h1, h2, h3, h4, h5, h6]
  have h7 : (a7.toList == b7.toList) = false := str_ne (fun e => h (by rw [h0, h1, h2, h3, h4, h5, h6, e]))
  simp [go_sem, Tryz.underlying31, Tryz.underlying3, Tryz.underlying9, h0, h1, h2, h3, h4, h5, h6, h7]
theorem msg_otherN (m n : M) (w : World) (h : m ≠ n) : (binOp .neq 31 m.val n.val).run Tryz.prog w = .ok (.bool true) w := by
  have h1 := msg_other m n w h
  rw [run_eql_struct] at h1
  rw [run_neq_struct]
  revert h1
  generalize Sem.run Tryz.prog (Op.equalIn 10000 31 _ _) w = r
  intro h1
  cases r <;> simp_all [Result.andThen]
/-- Are two messages the same? -/
def M.eqb (a b : M) : Bool := a.kind == b.kind && a.src == b.src && a.dst == b.dst && a.epoch == b.epoch && a.seq == b.seq && a.off == b.off && a.len == b.len && decide (a.data = b.data)
theorem M.eqb_iff {a b : M} : a.eqb b = true ↔ a = b := by
  obtain ⟨a0, a1, a2, a3, a4, a5, a6, a7⟩ := a
  obtain ⟨b0, b1, b2, b3, b4, b5, b6, b7⟩ := b
  simp [M.eqb, and_assoc]
theorem M.eqb_self (a : M) : a.eqb a = true := M.eqb_iff.2 rfl
theorem M.eqb_ne {a b : M} : a.eqb b = false ↔ a ≠ b := by
  rw [← Bool.not_eq_true, M.eqb_iff]
theorem msg_eq (m n : M) (w : World) : (binOp .eql 31 m.val n.val).run Tryz.prog w = .ok (.bool (m.eqb n)) w := by
  by_cases h : m = n
  · subst h; rw [M.eqb_self]; exact msg_same m w
  · rw [M.eqb_ne.2 h]; exact msg_other m n w h
theorem msg_neq (m n : M) (w : World) : (binOp .neq 31 m.val n.val).run Tryz.prog w = .ok (.bool (!m.eqb n)) w := by
  by_cases h : m = n
  · subst h; rw [M.eqb_self]; exact msg_sameN m w
  · rw [M.eqb_ne.2 h]; exact msg_otherN m n w h
end Go.Proofs.YtmmpknfkncgjpaaGreatDoor
