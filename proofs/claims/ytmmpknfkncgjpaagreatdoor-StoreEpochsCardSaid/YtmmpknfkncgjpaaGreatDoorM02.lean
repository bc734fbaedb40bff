/-
  The calls of a plate that only tell: Size, Dead, Calls, reach, kept, and the closures, by contracts.

  Laws at a walk's own steps: a write that waits is loaded, and stored whole; bytes are copied into a sector.

  slices.Backward at writes that wait, by contracts: the last one first.
-/
import Derived.Test.YtmmpknfkncgjpaaGreatDoorM01
import Derived.Laws.Tables
import Derived.RangeFuncNested
import Derived.RangeFuncBound
import Derived.RangeFuncCalls
import Derived.RangeFuncLeaves
import Derived.Shelf.Abstract
import Derived.Shelf.RegionOpen
import Derived.OwnWalkIn
import Derived.TacticsInMore
import Derived.LoopNIn
import Derived.LoopIn
import Derived.Maps.OwnIn
namespace Go.Proofs.YtmmpknfkncgjpaaGreatDoor
open Go.RowKit

theorem size_any (b : Nat) (s : St) (F : Nat → Prop) (w : World) (h : PB w b s F) :
    Calls Tryz.prog 120 #[.pointer (some ⟨b, 0, none⟩)] w fun e w' => e = .returned (.int .i64 (s.is.length : Int)) ∧ w = w' := by
  obtain ⟨L, K, v, h, -⟩ := h
  obtain ⟨c0, -⟩ := h.cells
  clear h
  go_enter Tryz.func120, Tryz.ntmps120
  go_wp2
  go_ret
  exact ⟨rfl, rfl⟩

theorem dead_any (b : Nat) (s : St) (F : Nat → Prop) (w : World) (h : PB w b s F) :
    Calls Tryz.prog 15 #[.pointer (some ⟨b, 0, none⟩)] w fun e w' => e = .returned (.bool s.gone) ∧ w = w' := by
  obtain ⟨L, K, v, h, -⟩ := h
  obtain ⟨-, -, c0, -⟩ := h.cells
  clear h
  go_enter Tryz.func15, Tryz.ntmps15
  go_wp2
  go_ret
  exact ⟨rfl, rfl⟩

theorem reach_any (b : Nat) (s : St) (F : Nat → Prop) (i : Int) (w : World) (h : PB w b s F) :
    Calls Tryz.prog 135 #[.pointer (some ⟨b, 0, none⟩), .int .i64 i] w fun e w' => e = .returned (.int .i64 (wrong s i)) ∧ w = w' := by
  obtain ⟨L, K, v, h, -⟩ := h
  obtain ⟨c0, -, c2, -⟩ := h.cells
  clear h
  unfold wrong
  cases hg : s.gone
  · rw [hg] at c2
    rw [if_neg (by simp)]
    generalize s.is.length = m at c0 ⊢
    by_cases h1 : i < 0
    · rw [if_pos (.inl h1)]
      go_enter Tryz.func135, Tryz.ntmps135
      go_wp2
      go_ret
      exact ⟨rfl, rfl⟩
    · by_cases h2 : (m : Int) ≤ i
      · rw [if_pos (.inr h2)]
        go_enter Tryz.func135, Tryz.ntmps135
        go_wp2
        go_ret
        exact ⟨rfl, rfl⟩
      · rw [if_neg (fun hc => by rcases hc with hc | hc; exact h1 hc; exact h2 hc)]
        go_enter Tryz.func135, Tryz.ntmps135
        go_wp2
        go_ret
        exact ⟨rfl, rfl⟩
  · rw [hg] at c2
    rw [if_pos rfl]
    go_enter Tryz.func135, Tryz.ntmps135
    go_wp2
    go_ret
    exact ⟨rfl, rfl⟩

theorem all_any (j : Int) (w : World) :
    Calls Tryz.prog 137 #[.int .i64 j] w fun e w' => e = .returned (.int .i64 32) ∧ w = w' := by
  go_enter Tryz.func137, Tryz.ntmps137
  go_wp2
  go_ret
  exact ⟨rfl, rfl⟩

theorem and15L (n : Nat) (h : n < 18446744073709551616) : bits .and .u64 (n : Int) 15 = ((n % 16 : Nat) : Int) := by
  have key : bits .and .u64 (n : Int) 15 = IntKind.u64.wrap (((BitVec.ofInt IntKind.u64.bits (n : Int) &&& BitVec.ofInt IntKind.u64.bits 15).toNat : Nat) : Int) := rfl
  have h1 : (BitVec.ofInt IntKind.u64.bits (n : Int) &&& BitVec.ofInt IntKind.u64.bits 15).toNat = n % 16 := by
    rw [BitVec.toNat_and]
    have e1 : (BitVec.ofInt IntKind.u64.bits (n : Int)).toNat = n := by
      rw [BitVec.ofInt_natCast, BitVec.toNat_ofNat]; exact Nat.mod_eq_of_lt h
    have e2 : (BitVec.ofInt IntKind.u64.bits 15).toNat = 2 ^ 4 - 1 := by decide
    rw [e1, e2, Nat.and_two_pow_sub_one_eq_mod]
  rw [key, h1]
  generalize hm : n % 16 = m
  have : m < 16 := by omega
  match m, this with
  | 0, _ | 1, _ | 2, _ | 3, _ | 4, _ | 5, _ | 6, _ | 7, _ | 8, _ | 9, _ | 10, _ | 11, _ | 12, _ | 13, _ | 14, _ | 15, _ => rfl
  | k + 16, h => exact absurd h (by omega)
theorem share_bits (keep j : Nat) (hk : keep < 18446744073709551616) : bits .and .u64 ((keep : Int) / 2 ^ (4 * (j % 16))) 15 = (share keep j : Int) := by
  have e : (keep : Int) / 2 ^ (4 * (j % 16)) = ((keep >>> (4 * (j % 16)) : Nat) : Int) := by
    rw [Nat.shiftRight_eq_div_pow]; push_cast; rfl
  rw [e, and15L _ (by rw [Nat.shiftRight_eq_div_pow]; exact Nat.lt_of_le_of_lt (Nat.div_le_self _ _) hk)]
  rfl

theorem kept_any (keep j : Nat) (w : World) (hk : keep < 18446744073709551616) (hj : j ≤ 1000) :
    Calls Tryz.prog 62 #[.int .u64 keep, .int .i64 j] w fun e w' => e = .returned (.int .i64 (part keep j)) ∧ w = w' := by
  have hs := share_bits keep j hk
  have hl := share_lt keep j
  unfold part
  generalize share keep j = t at hs hl ⊢
  have hw : wrap64 (t : Int) = t := IntWalk.wrap64_in _ (by omega)
  by_cases h15 : t = 15
  · subst h15
    rw [if_pos rfl]
    go_enter Tryz.func62, Tryz.ntmps62
    go_wp2
    go_ret
    exact ⟨rfl, rfl⟩
  · rw [if_neg h15]
    have h15' : ((t : Int) == 15) = false := by simp; omega
    go_enter Tryz.func62, Tryz.ntmps62
    go_wp2
    go_ret
    exact ⟨by simp, rfl⟩

theorem torn_any (C keep j : Nat) (w : World) (hC : w.cell? ⟨C, 0, none⟩ = some (.int .u64 keep)) (hk : keep < 18446744073709551616) (hj : j ≤ 1000) :
    Calls Tryz.prog 61 #[.int .i64 j, .pointer (some ⟨C, 0, none⟩)] w fun e w' => e = .returned (.int .i64 (part keep j)) ∧ w = w' := by
  have HK := Lib.hid (fun w => kept_any keep j w hk hj)
  generalize part keep j = t at HK ⊢
  go_enter Tryz.func61, Tryz.ntmps61
  go_wp2_with (go_at_call 62; refine (HK.out _).mono ?_; rintro e w1 ⟨rfl, rfl⟩)
  go_ret
  exact ⟨rfl, rfl⟩
end Go.Proofs.YtmmpknfkncgjpaaGreatDoor

namespace Go.Proofs.YtmmpknfkncgjpaaGreatDoor
open Go.RowKit

theorem info61 : (Tryz.prog.info? 167).map (·.size) = some 33 := by kernel_rfl
theorem info61' : (Tryz.prog.info? 167).map (fun i => (i.zero, i.size, i.bytes)) = some (some (.agg (wcells ⟨0, zeros 32⟩).toArray), 33, 40) := by kernel_rfl
theorem info5 : (Tryz.prog.info? 5).map (·.size) = some 1 := by kernel_rfl

/-- The write c is all that block D has. -/
def WB (w : World) (D : Nat) (c : Wr) : Prop := w.heap[D]? = some (.cells (wcells c).toArray 167 (0, 0))
theorem WB.fresh (w : World) (c : Wr) : WB (w.alloc (.cells (wcells c).toArray 167)) w.heap.size c := heap_alloc_new w _
theorem WB.lt {w : World} {D : Nat} {c : Wr} (h : WB w D c) : D < w.heap.size := (Array.getElem?_eq_some_iff.1 h).1
theorem WB.below {w w' : World} {D : Nat} {c : Wr} (h : WB w D c) (hb : Below w.heap.size w w') : WB w' D c := by unfold WB; rw [hb.block D h.lt]; exact h
theorem WB.kept {w w' : World} {F : Nat → Prop} {D : Nat} {c : Wr} (h : WB w D c) (hk : Keeps F w w') (hn : ¬ F D) : WB w' D c := by unfold WB; rw [hk.block D h.lt hn]; exact h
theorem WB.cellq {w : World} {D : Nat} {c : Wr} (h : WB w D c) (q : Nat) : w.cell? ⟨D, q, none⟩ = (wcells c)[q]? := by
  rw [cell_of_row w D q _ _ _ h]; simp
theorem WB.at0 {w : World} {D : Nat} {c : Wr} (h : WB w D c) : w.cell? ⟨D, 0, none⟩ = some (.int .i64 (c.i : Int)) := h.cellq 0
theorem WB.bytes {w : World} {D : Nat} {c : Wr} (h : WB w D c) : ∀ j v, (Lib.byteCells c.b)[j]? = some v → w.cell? ⟨D, 1 + j, none⟩ = some v := fun j v hv => by
  rw [h.cellq, show 1 + j = j + 1 by omega]; exact hv
theorem WB.range {w : World} {D : Nat} {c : Wr} (h : WB w D c) : w.rangeAt D 0 (wcells c) := fun j v hv => by rw [Nat.zero_add, h.cellq]; exact hv

/-- A write is stored whole into a block of its own. -/
theorem wpList_store_wr {ops : Array Oper} {rest : List Oper} {o : Oper} {a : Act} {w : World} {Q : Exit → Act → World → Prop} (hgd : o.guard = none) (x y : Operand) (ho : o.op = .store 167 x y)
    (D : Nat) (c : Wr) (hc : c.b.length = 32) (old : Array Value) (hx : a.eval x = .pointer (some ⟨D, 0, none⟩)) (hy : a.eval y = .agg (wcells c).toArray) (hD : w.heap[D]? = some (.cells old 167 (0, 0))) (hold : old.size = 33)
    (h : ∀ wF, WB wF D c → Below D w wF → wpList Tryz.prog ops Q rest (a.put o.dst undef) wF) : wpList Tryz.prog ops Q (o :: rest) a w :=
  wpList_store_row hgd 167 x y ho D (wcells c).toArray hx hy 167 old hD (by rw [info61]; simp [wcells_length hc]) (by simp [wcells_length hc, hold]) (all_oneCell_toArray (wcells_oneCell c))
    (h _ (setRow_heap w D old _ _ _ hD) (below_setRow (Below.refl D w) (Nat.le_refl D) _))

theorem byteAt_set {l : List (List UInt8)} {i : Nat} {m : List UInt8} (hi : i < l.length) (q : Nat) : byteAt (l.set i m) q = if q / 32 = i then m.getD (q % 32) 0 else byteAt l q := by
  unfold byteAt
  rw [getD_set hi]
  split <;> rfl
theorem mix_getD {k q : Nat} {new old : List UInt8} (hn : new.length = 32) (hk : k ≤ 32) : (mix k new old).getD q 0 = if q < k then new.getD q 0 else old.getD q 0 := by
  unfold mix
  simp only [List.getD_eq_getElem?_getD]
  have hl : (new.take k).length = k := by simp [hn]; omega
  by_cases h : q < k
  · rw [if_pos h, List.getElem?_append_left (by omega), List.getElem?_take, if_pos h]
  · rw [if_neg h, List.getElem?_append_right (by omega), List.getElem?_drop, hl, show k + (q - k) = q by omega]

/-- What lasts when the first j writes have taken place. -/
def at' (s : St) (f : Nat → Nat) (j : Nat) : St := { s with is := done f s.wait s.is j }
/-- The j-th write takes place in part: its bytes are copied. -/
theorem PBv.copied {w : World} {b : Nat} {s : St} {f : Nat → Nat} {j L K : Nat} {v : Value} (h : PBv w b (at' s f j) L K v) (hg : Good s) {x : Wr} (hx : s.wait[j]? = some x) (hf : f j ≤ 32) :
    ∃ cur : Array Value, w.heap[b]? = some (.cells cur 86 (0, 0)) ∧ (1 + x.i * 32) + ((Lib.byteCells x.b).take (f j)).length ≤ cur.size ∧
      PBv (w.setRow b (cur.toList.take (1 + x.i * 32) ++ ((Lib.byteCells x.b).take (f j) ++ cur.toList.drop ((1 + x.i * 32) + ((Lib.byteCells x.b).take (f j)).length))).toArray) b (at' s f (j + 1)) L K v := by
  obtain ⟨hxi, hxb⟩ := hg.wt x (List.mem_of_getElem? hx)
  have hhi := hg.hi
  have hl : ((Lib.byteCells x.b).take (f j)).length = f j := by simp [Lib.byteCells_length, hxb]; omega
  obtain ⟨cur, h1, h2, h3⟩ := row_copy h.row (1 + x.i * 32) ((Lib.byteCells x.b).take (f j)) (by rw [hl]; omega)
  refine ⟨cur, h1, by rw [hl, h2]; omega, h3.congr fun o ho => ?_, ?_, h.lf, h.lt, h.kt⟩
  · have hlen : (done f s.wait s.is (j + 1)).length = (done f s.wait s.is j).length := by rw [done_length, done_length]
    have hd := done_succ (is := s.is) (f := f) hx
    have hi : x.i < (done f s.wait s.is j).length := by rw [done_length]; exact hxi
    have key : ∀ q, byteAt (done f s.wait s.is (j + 1)) q = if q / 32 = x.i then (if q % 32 < f j then x.b.getD (q % 32) 0 else byteAt (done f s.wait s.is j) q) else byteAt (done f s.wait s.is j) q := fun q => by
      rw [hd, byteAt_set hi]
      by_cases e : q / 32 = x.i
      · rw [if_pos e, if_pos e, mix_getD hxb hf]
        split
        · rfl
        · unfold byteAt; rw [e]
      · rw [if_neg e, if_neg e]
    unfold pf
    show _ = if o = 0 then Value.int .i64 ((done f s.wait s.is (j + 1)).length : Int) else if o < 4097 then sc (done f s.wait s.is (j + 1)) (o - 1) else _
    rw [hlen]
    by_cases o0 : o = 0
    · subst o0; rw [if_pos (by omega), if_pos rfl, if_pos rfl]; rfl
    · by_cases oh : o < 4097
      · simp only [if_neg o0, if_pos oh]
        unfold sc
        rw [key]
        by_cases h5 : o < 1 + x.i * 32
        · rw [if_pos h5, if_neg (by omega)]; rfl
        · rw [if_neg h5]
          by_cases h6 : o - (1 + x.i * 32) < f j
          · rw [dif_pos (by rw [hl]; exact h6), if_pos (by omega), if_pos (by omega)]
            have hq : o - (1 + x.i * 32) = (o - 1) % 32 := by omega
            have hb : (o - 1) % 32 < x.b.length := by omega
            simp only [hq, List.getElem_take, Lib.byteCells, List.getElem_map]
            rw [List.getD_eq_getElem?_getD, List.getElem?_eq_getElem hb]; rfl
          · rw [dif_neg (by rw [hl]; exact h6)]
            by_cases h7 : (o - 1) / 32 = x.i
            · rw [if_pos h7, if_neg (by omega)]; rfl
            · rw [if_neg h7]; rfl
      · rw [if_neg (by omega), dif_neg (by rw [hl]; omega)]
        simp only [if_neg o0, if_neg oh]
        rfl
  · exact owns_kept h.own fun g hg => by
      rw [setRow_other w b g _ (fun e => h.ne (by rw [hg, e]))]

section
variable {P : Program}
/-- Cells are copied into a row that is known whole, at a step of a region that draws its order. -/
theorem step_copy_row {ops : Array Oper} {o : Oper} {a : Act} {w : World} {K : Act → World → Prop} {Q : Exit → Act → World → Prop} {E : Prop} (hgd : o.guard = none) (d s : Operand) (dT sT : TypeId)
    (ho : o.op = .call { callee := .builtin .copy, args := #[d, s], argTypes := #[dT, sT] }) (elem : TypeId) (hu : P.underlying dT = some (.slice elem)) (hsz : (P.info? elem).map (·.size) = some 1)
    (g off dLen dCap : Nat) (ad : Addr) (sLen sCap : Nat) (hd : a.eval d = .slice (some ⟨g, off, none⟩) dLen dCap) (hs : a.eval s = .slice (some ad) sLen sCap)
    (cur : Array Value) (t : TypeId) (hg : w.heap[g]? = some (.cells cur t (0, 0))) (cs : List Value) (hn : cs.length = Nat.min sLen dLen)
    (hsrc : ∀ j v, cs[j]? = some v → w.cell? (ad.add j) = some v) (hfit : off + cs.length ≤ cur.size) (h1 : ∀ v ∈ cs, v.oneCell' = true)
    (h : K (a.put o.dst (goInt cs.length)) (w.setRow g (cur.toList.take off ++ (cs ++ cur.toList.drop (off + cs.length))).toArray)) :
    if Region.wanted o (yielded ops a.tmps) = true then Oper.wp P o a w K Q else E := by
  have hw : Region.wanted o (yielded ops a.tmps) = true := by simp [Region.wanted, hgd]
  rw [if_pos hw]
  have hrun := run_copy_row (P := P) w dT sT o.type elem g off dLen dCap ad sLen sCap cur t cs hu hsz hg hn hsrc hfit h1
  unfold Oper.wp
  simp [execOp, ho, resolve, invoke, builtin, hd, hs, hrun, Result.andThen]
  exact h
end
/-- The j-th write takes place in part, at that step. -/
theorem step_settle {ops : Array Oper} {o : Oper} {a : Act} {w : World} {Kk : Act → World → Prop} {Q : Exit → Act → World → Prop} {E : Prop} (hgd : o.guard = none) (d e : Operand)
    (ho : o.op = .call { callee := .builtin .copy, args := #[d, e], argTypes := #[73, 73] })
    (b : Nat) (s : St) (f : Nat → Nat) (j L K : Nat) (v : Value) (h : PBv w b (at' s f j) L K v) (hg : Good s) (x : Wr) (hx : s.wait[j]? = some x) (hf : f j ≤ 32) (D : Nat) (hD : WB w D x)
    (hd : a.eval d = .slice (some ⟨b, 1 + x.i * 32, none⟩) (f j) 32) (he : a.eval e = .slice (some ⟨D, 1, none⟩) 32 32)
    (hK : ∀ w', PBv w' b (at' s f (j + 1)) L K v → Keeps (· = b) w w' → Kk (a.put o.dst (.int .i64 (f j))) w') :
    if Region.wanted o (yielded ops a.tmps) = true then Oper.wp Tryz.prog o a w Kk Q else E := by
  obtain ⟨cur, h1, h2, h3⟩ := h.copied hg hx hf
  have hxb := (hg.wt x (List.mem_of_getElem? hx)).2
  have hl : ((Lib.byteCells x.b).take (f j)).length = f j := by simp [Lib.byteCells_length, hxb]; omega
  refine step_copy_row hgd d e _ _ ho 5 Tryz.underlying73 info5 b (1 + x.i * 32) (f j) 32 ⟨D, 1, none⟩ 32 32 hd he cur _ h1 ((Lib.byteCells x.b).take (f j)) (by rw [hl]; exact (Nat.min_eq_right hf).symm) ?_ h2 (fun u hu => Lib.byteCells_one _ u (List.mem_of_mem_take hu)) ?_
  · intro q u hu
    rw [List.getElem?_take] at hu
    split at hu
    · rw [Go.WideShapes.add_plain]; exact hD.bytes q u hu
    · simp at hu
  · have := hK _ h3 ((Keeps.refl (fun k => k = b) w).setRow (b := b) (.inl rfl) _)
    rw [hl] at this ⊢
    exact this
end Go.Proofs.YtmmpknfkncgjpaaGreatDoor

namespace Go.Proofs.YtmmpknfkncgjpaaGreatDoor
open Go.RowKit Go.Shelf
attribute [local go_sem] Oper.semAt_some

section
variable {F : Fence} {nF : Nat} {ops : Array Oper} {rest : List Oper} {o : Oper} {a : Act} {w : World} {Q : Exit → Act → World → Prop}
/-- A write that waits is loaded, in a round. -/
theorem wpListIn_load_wr (hg : o.guard = none) (x : Operand) (ho : o.op = .load 167 x) (b p : Nat) (c : Wr) (hc : c.b.length = 32) (hx : a.eval x = .pointer (some ⟨b, p, none⟩)) (hr : w.rangeAt b p (wcells c))
    (h : wpListIn F nF Tryz.prog ops Q rest (a.put o.dst (.agg (wcells c).toArray)) w) : wpListIn F nF Tryz.prog ops Q (o :: rest) a w := by
  refine wpListIn_plain hg fun K hK => ?_
  have hl := run_loadVar_mid (P := Tryz.prog) w b p 167 (wcells c) _ hr Tryz.underlying167 rfl (by rw [info61, wcells_length hc])
  unfold Oper.wpIn
  refine ⟨by simp [Oper.about, ho], ?_⟩
  rw [Oper.semAt_plain F _ _ (by rw [ho]; intro c hc'; cases hc')]
  unfold execOp
  simp only [ho, hx, Instr.loadAt, Instr.sureAddr, Sem.run_bind, Sem.run_pure, Result.andThen_ok, hl]
  exact hK _ _ h
/-- It is stored whole, in a round. -/
theorem wpListIn_store_wr (hg : o.guard = none) (x y : Operand) (ho : o.op = .store 167 x y) (D : Nat) (c : Wr) (hc : c.b.length = 32) (old : Array Value) (hx : a.eval x = .pointer (some ⟨D, 0, none⟩)) (hy : a.eval y = .agg (wcells c).toArray)
    (hD : w.heap[D]? = some (.cells old 167 (0, 0))) (hold : old.size = 33)
    (h : ∀ wF, WB wF D c → Below D w wF → KeepsOthers w wF → wpListIn F nF Tryz.prog ops Q rest (a.put o.dst undef) wF) : wpListIn F nF Tryz.prog ops Q (o :: rest) a w := by
  refine wpListIn_plain hg fun K hK => ?_
  have hl := wcells_length hc
  unfold Oper.wpIn
  refine ⟨by simp [Oper.about, ho], ?_⟩
  rw [Oper.semAt_plain F _ _ (by rw [ho]; intro c hc'; cases hc')]
  have hs := run_storeVar_row (P := Tryz.prog) w D 167 167 old (wcells c).toArray hD (by rw [info61]; simp [hl]) (by simp [hl, hold]) (all_oneCell_toArray (wcells_oneCell c))
  unfold execOp
  simp only [ho, hx, hy, Instr.storeAt, Instr.sureAddr, Sem.run_bind, Sem.run_pure, Result.andThen_ok, hs]
  exact hK _ _ (h _ (setRow_heap w D old _ _ _ hD) (below_setRow (Below.refl D w) (Nat.le_refl D) _) ⟨by simp [World.setRow], fun k ob hk hn => by
    have hne : D ≠ k := fun e => by subst e; rw [hD] at hk; cases hk; cases hn
    rw [setRow_other w D k _ (Ne.symm hne)]; exact hk⟩)
end

theorem backward_any (A : Option Addr) (n c : Nat) (w : World) :
    Calls Tryz.prog 143 #[.slice A n c] w fun e w' => e = .returned (.func (.func 168) #[] #[.pointer (some ⟨w.heap.size, 0, none⟩)]) ∧ w' = w.alloc (.cells #[.slice A n c] 82) := by
  go_enter Tryz.func143, Tryz.ntmps143
  go_wp2
  go_ret
  exact ⟨rfl, rfl⟩

/-- From the last one down to m. -/
def down (n m : Nat) : List Nat := (List.range (n - m)).map fun i => n - 1 - i
theorem down_top (n : Nat) : down n n = [] := by simp [down]
theorem down_succ {n m : Nat} (h : m < n) : down n m = down n (m + 1) ++ [m] := by
  unfold down
  rw [show n - m = n - (m + 1) + 1 by omega, List.range_succ, List.map_append]
  congr 1
  simp; omega
theorem down_length (n m : Nat) : (down n m).length = n - m := by simp [down]
/-- The j-th write. -/
def nth (ws : List Wr) (j : Nat) : Wr := ws.getD j default
theorem nth_get {ws : List Wr} {j : Nat} (h : j < ws.length) : ws[j]? = some (nth ws j) := by simp [nth, List.getD_eq_getElem?_getD, List.getElem?_eq_getElem h]
/-- A place in a list of writes. -/
abbrev Pl (ws : List Wr) : Type := { j : Nat // j < ws.length }
abbrev encP (ws : List Wr) (x : Pl ws) : Array Value := #[.int .i64 (x.1 : Int), .agg (wcells (nth ws x.1)).toArray]

set_option maxRecDepth 100000 in
set_option maxHeartbeats 2000000 in
theorem back_stops (ws : List Wr) (hws : ∀ x ∈ ws, x.b.length = 32) (m Bn : Nat) (A : Option Addr) (cap n₀ : Nat) (hm : 1 ≤ m) (hcap : ws.length ≤ cap) (hcm : cap ≤ maxLen) (w : World) (hn0 : n₀ ≤ w.heap.size) (hBn : Bn < n₀) (hB : w.cell? ⟨Bn, 0, none⟩ = some (.slice A ws.length cap))
    (hr : ∀ i x, ws[i]? = some x → ∃ g, A = some ⟨g, 0, none⟩ ∧ g < n₀ ∧ w.rangeAt g (i * 33) (wcells x)) :
    SeqStopsK Fence.wide m Tryz.prog 168 #[.pointer (some ⟨Bn, 0, none⟩)] (encP ws) (Below n₀) (fun xs => xs.map Subtype.val = down ws.length 0) (fun pre => ∃ k, k ≤ ws.length ∧ pre.map Subtype.val = down ws.length k) ws.length w := fun l J Jx W hW _ _ hY h0 => by
  have hB' := (hW.cell (p := ⟨Bn, 0, none⟩) (by show Bn < w.heap.size; omega)).trans hB
  have HR := Lib.hid (show ∀ i x, ws[i]? = some x → ∃ g, A = some ⟨g, 0, none⟩ ∧ g < n₀ ∧ W.rangeAt g (i * 33) (wcells x) from fun i x hx => by
    obtain ⟨g, hA, hg, h1⟩ := hr i x hx
    exact ⟨g, hA, hg, fun j u hu => (hW.cell (p := ⟨g, i * 33 + j, none⟩) (by show g < w.heap.size; omega)).trans (h1 j u hu)⟩)
  have HY := Lib.hid hY
  have H0 := Lib.hid h0
  have HW := Lib.hid hws
  unfold maxLen at hcm
  clear hY h0 hB hW hr hws
  refine callsIn_of_wp Tryz.func168 rfl trivial ?_ rfl
  simp only [Tryz.ntmps168, List.size_toArray, List.length_cons, List.length_nil, Nat.reduceAdd, Nat.reduceSub, Array.replicate_succ, Array.replicate_zero, List.push_toArray, List.append_toArray, List.nil_append, List.cons_append]
  gi_wp2
  gi_loopw [3] (fun v wr => ∃ (k : Nat) (pre : List (Pl ws)), k ≤ ws.length ∧ v = .int .i64 ((k : Int) - 1) ∧ pre.map Subtype.val = down ws.length k ∧ J pre wr ∧ Below n₀ W wr) (fun v _ => (intOf v + 1).toNat)
  case atStart => exact ⟨ws.length, [], Nat.le_refl _, rfl, (down_top _).symm, H0.out, Below.refl _ _⟩
  case round =>
    obtain ⟨k, pre, hk, rfl, hp, hJ, hbW⟩ := hrel
    have HP := Lib.hid hp
    have HJ := Lib.hid hJ
    have HB := Lib.hid hbW
    have hBr := (hbW.cell (p := ⟨Bn, 0, none⟩) hBn).trans hB'
    clear hp hJ hbW
    by_cases h0 : k = 0
    · subst h0
      gi_wp2
      go_end0
      exact ⟨⟨_, rfl⟩, .inl ⟨pre, HP.out, HJ.out⟩⟩
    · obtain ⟨j, rfl⟩ : ∃ j, k = j + 1 := ⟨k - 1, by omega⟩
      have hj : j < ws.length := by omega
      have hcast : ((j + 1 : Nat) : Int) - 1 = (j : Int) := by omega
      rw [hcast]
      have hjI : (j : Int) < (ws.length : Int) := by omega
      have hj0 : (0 : Int) ≤ (j : Int) := by omega
      have hx := nth_get hj
      have H32 := Lib.hid (HW.out _ (List.mem_of_getElem? hx))
      obtain ⟨g, rfl, hg, h1⟩ := HR.out j _ hx
      have HRr := Lib.hid (show wr.rangeAt g (j * 33) (wcells (nth ws j)) from fun q u hu => (HB.out.cell (p := ⟨g, j * 33 + q, none⟩) hg).trans (h1 q u hu))
      have hlen : pre.length < ws.length := by have := congrArg List.length HP.out; rw [List.length_map, down_length] at this; omega
      obtain ⟨fn, tmps, assign, body, hy, hRd⟩ := HY.out pre ⟨j, hj⟩ wr HJ.out hlen
      simp only [encP] at hy
      have HRd := Lib.hid hRd
      clear hx hlen hcast h0 hRd h1
      generalize nth ws j = c at H32 HRr hy
      gi_wp2_with (with_reducible show wpListIn _ _ _ _ _ (Oper.mk _ (Op.load 167 _) _ _ _ _ :: _) _ _; refine wpListIn_load_wr rfl (.tmp 15) rfl g (j * 33) c H32.out rfl HRr.out ?_)
      refine HRd.out.mono ?_
      rintro e W3 (⟨rfl, hJ3, hk3⟩ | ⟨rfl, hJx3⟩)
      · have J3 := Lib.hid hJ3
        have B3 := Lib.hid (HB.out.trans hk3)
        clear hJ3 hk3 hy
        gi_wp2
        go_roundw
        case rel => exact ⟨j, _, by omega, by go_num, by rw [List.map_append, HP.out, down_succ hj]; rfl, J3.out, B3.out⟩
        case measure => simp [intOf]
      · have J3 := Lib.hid hJx3
        clear hJx3 hy
        gi_wp2
        refine bodyPost_ret (results_none rfl _ _ _) rfl ?_
        exact ⟨⟨_, rfl⟩, .inr ⟨_, ⟨j, by omega, by rw [List.map_append, HP.out, down_succ hj]; rfl⟩, J3.out⟩⟩
end Go.Proofs.YtmmpknfkncgjpaaGreatDoor
