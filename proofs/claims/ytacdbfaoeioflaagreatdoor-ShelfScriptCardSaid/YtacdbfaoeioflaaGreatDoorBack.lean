/-
  slices.Backward at writes that wait, by contracts: the last one first.
-/
import Derived.Test.YtacdbfaoeioflaaGreatDoorCrash
import Derived.RangeFuncNested
import Derived.RangeFuncBound
import Derived.RangeFuncCalls
import Derived.RangeFuncLeaves
import Derived.Shelf.Abstract
import Derived.Shelf.RegionOpen
import Derived.OwnWalkIn
import Derived.TacticsInMore
import Derived.LoopNIn
import Derived.LoopIn
import Derived.Maps.OwnIn
namespace Go.Proofs.YtacdbfaoeioflaaGreatDoor
open Go.RowKit Go.Shelf
attribute [local go_sem] Oper.semAt_some

section
variable {F : Fence} {nF : Nat} {ops : Array Oper} {rest : List Oper} {o : Oper} {a : Act} {w : World} {Q : Exit → Act → World → Prop}
/-- A write that waits is loaded, in a round. -/
theorem wpListIn_load_wr (hg : o.guard = none) (x : Operand) (ho : o.op = .load 97 x) (b p : Nat) (c : Wr) (hc : c.b.length = 32) (hx : a.eval x = .pointer (some ⟨b, p, none⟩)) (hr : w.rangeAt b p (wcells c))
    (h : wpListIn F nF Tryz.prog ops Q rest (a.put o.dst (.agg (wcells c).toArray)) w) : wpListIn F nF Tryz.prog ops Q (o :: rest) a w := by
  refine wpListIn_plain hg fun K hK => ?_
  have hl := run_loadVar_mid (P := Tryz.prog) w b p 97 (wcells c) _ hr Tryz.underlying97 rfl (by rw [info61, wcells_length hc])
  unfold Oper.wpIn
  refine ⟨by simp [Oper.about, ho], ?_⟩
  rw [Oper.semAt_plain F _ _ (by rw [ho]; intro c hc'; cases hc')]
  unfold execOp
  simp only [ho, hx, Instr.loadAt, Instr.sureAddr, Sem.run_bind, Sem.run_pure, Result.andThen_ok, hl]
  exact hK _ _ h
/-- It is stored whole, in a round. -/
theorem wpListIn_store_wr (hg : o.guard = none) (x y : Operand) (ho : o.op = .store 97 x y) (D : Nat) (c : Wr) (hc : c.b.length = 32) (old : Array Value) (hx : a.eval x = .pointer (some ⟨D, 0, none⟩)) (hy : a.eval y = .agg (wcells c).toArray)
    (hD : w.heap[D]? = some (.cells old 97 (0, 0))) (hold : old.size = 33)
    (h : ∀ wF, WB wF D c → Below D w wF → KeepsOthers w wF → wpListIn F nF Tryz.prog ops Q rest (a.put o.dst undef) wF) : wpListIn F nF Tryz.prog ops Q (o :: rest) a w := by
  refine wpListIn_plain hg fun K hK => ?_
  have hl := wcells_length hc
  unfold Oper.wpIn
  refine ⟨by simp [Oper.about, ho], ?_⟩
  rw [Oper.semAt_plain F _ _ (by rw [ho]; intro c hc'; cases hc')]
  have hs := run_storeVar_row (P := Tryz.prog) w D 97 97 old (wcells c).toArray hD (by rw [info61]; simp [hl]) (by simp [hl, hold]) (all_oneCell_toArray (wcells_oneCell c))
  unfold execOp
  simp only [ho, hx, hy, Instr.storeAt, Instr.sureAddr, Sem.run_bind, Sem.run_pure, Result.andThen_ok, hs]
  exact hK _ _ (h _ (setRow_heap w D old _ _ _ hD) (below_setRow (Below.refl D w) (Nat.le_refl D) _) ⟨by simp [World.setRow], fun k ob hk hn => by
    have hne : D ≠ k := fun e => by subst e; rw [hD] at hk; cases hk; cases hn
    rw [setRow_other w D k _ (Ne.symm hne)]; exact hk⟩)
end

theorem backward_any (A : Option Addr) (n c : Nat) (w : World) :
    Calls Tryz.prog 87 #[.slice A n c] w fun e w' => e = .returned (.func (.func 100) #[] #[.pointer (some ⟨w.heap.size, 0, none⟩)]) ∧ w' = w.alloc (.cells #[.slice A n c] 71) := by
  go_enter Tryz.func87, Tryz.ntmps87
  go_wp2
  go_ret
  exact ⟨rfl, rfl⟩

/-- From the last one down to m. -/
def down (n m : Nat) : List Nat := (List.range (n - m)).map fun i => n - 1 - i
theorem down_top (n : Nat) : down n n = [] := by simp [down]
theorem down_succ {n m : Nat} (h : m < n) : down n m = down n (m + 1) ++ [m] := by
  unfold down
  rw [show n - m = n - (m + 1) + 1 by omega, List.range_succ, List.map_append]
  congr 1
  simp; omega
theorem down_length (n m : Nat) : (down n m).length = n - m := by simp [down]
/-- The j-th write. -/
def nth (ws : List Wr) (j : Nat) : Wr := ws.getD j default
theorem nth_get {ws : List Wr} {j : Nat} (h : j < ws.length) : ws[j]? = some (nth ws j) := by simp [nth, List.getD_eq_getElem?_getD, List.getElem?_eq_getElem h]
/-- A place in a list of writes. -/
abbrev Pl (ws : List Wr) : Type := { j : Nat // j < ws.length }
abbrev encP (ws : List Wr) (x : Pl ws) : Array Value := #[.int .i64 (x.1 : Int), .agg (wcells (nth ws x.1)).toArray]

set_option maxRecDepth 100000 in
set_option maxHeartbeats 2000000 in
theorem back_stops (ws : List Wr) (hws : ∀ x ∈ ws, x.b.length = 32) (m Bn : Nat) (A : Option Addr) (cap n₀ : Nat) (hm : 1 ≤ m) (hcap : ws.length ≤ cap) (hcm : cap ≤ maxLen) (w : World) (hn0 : n₀ ≤ w.heap.size) (hBn : Bn < n₀) (hB : w.cell? ⟨Bn, 0, none⟩ = some (.slice A ws.length cap))
    (hr : ∀ i x, ws[i]? = some x → ∃ g, A = some ⟨g, 0, none⟩ ∧ g < n₀ ∧ w.rangeAt g (i * 33) (wcells x)) :
    SeqStopsK Fence.wide m Tryz.prog 100 #[.pointer (some ⟨Bn, 0, none⟩)] (encP ws) (Below n₀) (fun xs => xs.map Subtype.val = down ws.length 0) (fun pre => ∃ k, k ≤ ws.length ∧ pre.map Subtype.val = down ws.length k) ws.length w := fun l J Jx W hW _ _ hY h0 => by
  have hB' := (hW.cell (p := ⟨Bn, 0, none⟩) (by show Bn < w.heap.size; omega)).trans hB
  have HR := Lib.hid (show ∀ i x, ws[i]? = some x → ∃ g, A = some ⟨g, 0, none⟩ ∧ g < n₀ ∧ W.rangeAt g (i * 33) (wcells x) from fun i x hx => by
    obtain ⟨g, hA, hg, h1⟩ := hr i x hx
    exact ⟨g, hA, hg, fun j u hu => (hW.cell (p := ⟨g, i * 33 + j, none⟩) (by show g < w.heap.size; omega)).trans (h1 j u hu)⟩)
  have HY := Lib.hid hY
  have H0 := Lib.hid h0
  have HW := Lib.hid hws
  unfold maxLen at hcm
  clear hY h0 hB hW hr hws
  refine callsIn_of_wp Tryz.func100 rfl trivial ?_ rfl
  simp only [Tryz.ntmps100, List.size_toArray, List.length_cons, List.length_nil, Nat.reduceAdd, Nat.reduceSub, Array.replicate_succ, Array.replicate_zero, List.push_toArray, List.append_toArray, List.nil_append, List.cons_append]
  gi_wp2
  gi_loopw [3] (fun v wr => ∃ (k : Nat) (pre : List (Pl ws)), k ≤ ws.length ∧ v = .int .i64 ((k : Int) - 1) ∧ pre.map Subtype.val = down ws.length k ∧ J pre wr ∧ Below n₀ W wr) (fun v _ => (intOf v + 1).toNat)
  case atStart => exact ⟨ws.length, [], Nat.le_refl _, rfl, (down_top _).symm, H0.out, Below.refl _ _⟩
  case round =>
    obtain ⟨k, pre, hk, rfl, hp, hJ, hbW⟩ := hrel
    have HP := Lib.hid hp
    have HJ := Lib.hid hJ
    have HB := Lib.hid hbW
    have hBr := (hbW.cell (p := ⟨Bn, 0, none⟩) hBn).trans hB'
    clear hp hJ hbW
    by_cases h0 : k = 0
    · subst h0
      gi_wp2
      go_end0
      exact ⟨⟨_, rfl⟩, .inl ⟨pre, HP.out, HJ.out⟩⟩
    · obtain ⟨j, rfl⟩ : ∃ j, k = j + 1 := ⟨k - 1, by omega⟩
      have hj : j < ws.length := by omega
      have hcast : ((j + 1 : Nat) : Int) - 1 = (j : Int) := by omega
      rw [hcast]
      have hjI : (j : Int) < (ws.length : Int) := by omega
      have hj0 : (0 : Int) ≤ (j : Int) := by omega
      have hx := nth_get hj
      have H32 := Lib.hid (HW.out _ (List.mem_of_getElem? hx))
      obtain ⟨g, rfl, hg, h1⟩ := HR.out j _ hx
      have HRr := Lib.hid (show wr.rangeAt g (j * 33) (wcells (nth ws j)) from fun q u hu => (HB.out.cell (p := ⟨g, j * 33 + q, none⟩) hg).trans (h1 q u hu))
      have hlen : pre.length < ws.length := by have := congrArg List.length HP.out; rw [List.length_map, down_length] at this; omega
      obtain ⟨fn, tmps, assign, body, hy, hRd⟩ := HY.out pre ⟨j, hj⟩ wr HJ.out hlen
      simp only [encP] at hy
      have HRd := Lib.hid hRd
      clear hx hlen hcast h0 hRd h1
      generalize nth ws j = c at H32 HRr hy
      gi_wp2_with (with_reducible show wpListIn _ _ _ _ _ (Oper.mk _ (Op.load 97 _) _ _ _ _ :: _) _ _; refine wpListIn_load_wr rfl (.tmp 15) rfl g (j * 33) c H32.out rfl HRr.out ?_)
      refine HRd.out.mono ?_
      rintro e W3 (⟨rfl, hJ3, hk3⟩ | ⟨rfl, hJx3⟩)
      · have J3 := Lib.hid hJ3
        have B3 := Lib.hid (HB.out.trans hk3)
        clear hJ3 hk3 hy
        gi_wp2
        go_roundw
        case rel => exact ⟨j, _, by omega, by go_num, by rw [List.map_append, HP.out, down_succ hj]; rfl, J3.out, B3.out⟩
        case measure => simp [intOf]
      · have J3 := Lib.hid hJx3
        clear hJx3 hy
        gi_wp2
        refine bodyPost_ret (results_none rfl _ _ _) rfl ?_
        exact ⟨⟨_, rfl⟩, .inr ⟨_, ⟨j, by omega, by rw [List.map_append, HP.out, down_succ hj]; rfl⟩, J3.out⟩⟩
end Go.Proofs.YtacdbfaoeioflaaGreatDoor
