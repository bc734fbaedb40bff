/-
  Laws at a walk's own steps: a write that waits is loaded, and stored whole; bytes are copied into a sector.
-/
import Derived.Test.YtacdbfaoeioflaaDoorLittle
import Derived.Laws.Tables
namespace Go.Proofs.YtacdbfaoeioflaaDoor
open Go.RowKit

theorem info61 : (Tryd.prog.info? 148).map (·.size) = some 33 := by kernel_rfl
theorem info61' : (Tryd.prog.info? 148).map (fun i => (i.zero, i.size, i.bytes)) = some (some (.agg (wcells ⟨0, zeros 32⟩).toArray), 33, 40) := by kernel_rfl
theorem info5 : (Tryd.prog.info? 5).map (·.size) = some 1 := by kernel_rfl

/-- The write c is all that block D has. -/
def WB (w : World) (D : Nat) (c : Wr) : Prop := w.heap[D]? = some (.cells (wcells c).toArray 148 (0, 0))
theorem WB.fresh (w : World) (c : Wr) : WB (w.alloc (.cells (wcells c).toArray 148)) w.heap.size c := heap_alloc_new w _
theorem WB.lt {w : World} {D : Nat} {c : Wr} (h : WB w D c) : D < w.heap.size := (Array.getElem?_eq_some_iff.1 h).1
theorem WB.below {w w' : World} {D : Nat} {c : Wr} (h : WB w D c) (hb : Below w.heap.size w w') : WB w' D c := by unfold WB; rw [hb.block D h.lt]; exact h
theorem WB.kept {w w' : World} {F : Nat → Prop} {D : Nat} {c : Wr} (h : WB w D c) (hk : Keeps F w w') (hn : ¬ F D) : WB w' D c := by unfold WB; rw [hk.block D h.lt hn]; exact h
theorem WB.cellq {w : World} {D : Nat} {c : Wr} (h : WB w D c) (q : Nat) : w.cell? ⟨D, q, none⟩ = (wcells c)[q]? := by
  rw [cell_of_row w D q _ _ _ h]; simp
theorem WB.at0 {w : World} {D : Nat} {c : Wr} (h : WB w D c) : w.cell? ⟨D, 0, none⟩ = some (.int .i64 (c.i : Int)) := h.cellq 0
theorem WB.bytes {w : World} {D : Nat} {c : Wr} (h : WB w D c) : ∀ j v, (Lib.byteCells c.b)[j]? = some v → w.cell? ⟨D, 1 + j, none⟩ = some v := fun j v hv => by
  rw [h.cellq, show 1 + j = j + 1 by omega]; exact hv
theorem WB.range {w : World} {D : Nat} {c : Wr} (h : WB w D c) : w.rangeAt D 0 (wcells c) := fun j v hv => by rw [Nat.zero_add, h.cellq]; exact hv

/-- A write is stored whole into a block of its own. -/
theorem wpList_store_wr {ops : Array Oper} {rest : List Oper} {o : Oper} {a : Act} {w : World} {Q : Exit → Act → World → Prop} (hgd : o.guard = none) (x y : Operand) (ho : o.op = .store 148 x y)
    (D : Nat) (c : Wr) (hc : c.b.length = 32) (old : Array Value) (hx : a.eval x = .pointer (some ⟨D, 0, none⟩)) (hy : a.eval y = .agg (wcells c).toArray) (hD : w.heap[D]? = some (.cells old 148 (0, 0))) (hold : old.size = 33)
    (h : ∀ wF, WB wF D c → Below D w wF → wpList Tryd.prog ops Q rest (a.put o.dst undef) wF) : wpList Tryd.prog ops Q (o :: rest) a w :=
  wpList_store_row hgd 148 x y ho D (wcells c).toArray hx hy 148 old hD (by rw [info61]; simp [wcells_length hc]) (by simp [wcells_length hc, hold]) (all_oneCell_toArray (wcells_oneCell c))
    (h _ (setRow_heap w D old _ _ _ hD) (below_setRow (Below.refl D w) (Nat.le_refl D) _))

theorem byteAt_set {l : List (List UInt8)} {i : Nat} {m : List UInt8} (hi : i < l.length) (q : Nat) : byteAt (l.set i m) q = if q / 32 = i then m.getD (q % 32) 0 else byteAt l q := by
  unfold byteAt
  rw [getD_set hi]
  split <;> rfl
theorem mix_getD {k q : Nat} {new old : List UInt8} (hn : new.length = 32) (hk : k ≤ 32) : (mix k new old).getD q 0 = if q < k then new.getD q 0 else old.getD q 0 := by
  unfold mix
  simp only [List.getD_eq_getElem?_getD]
  have hl : (new.take k).length = k := by simp [hn]; omega
  by_cases h : q < k
  · rw [if_pos h, List.getElem?_append_left (by omega), List.getElem?_take, if_pos h]
  · rw [if_neg h, List.getElem?_append_right (by omega), List.getElem?_drop, hl, show k + (q - k) = q by omega]

/-- What lasts when the first j writes have taken place. -/
def at' (s : St) (f : Nat → Nat) (j : Nat) : St := { s with is := done f s.wait s.is j }
/-- The j-th write takes place in part: its bytes are copied. -/
theorem PBv.copied {w : World} {b : Nat} {s : St} {f : Nat → Nat} {j L K : Nat} {v : Value} (h : PBv w b (at' s f j) L K v) (hg : Good s) {x : Wr} (hx : s.wait[j]? = some x) (hf : f j ≤ 32) :
    ∃ cur : Array Value, w.heap[b]? = some (.cells cur 103 (0, 0)) ∧ (1 + x.i * 32) + ((Lib.byteCells x.b).take (f j)).length ≤ cur.size ∧
      PBv (w.setRow b (cur.toList.take (1 + x.i * 32) ++ ((Lib.byteCells x.b).take (f j) ++ cur.toList.drop ((1 + x.i * 32) + ((Lib.byteCells x.b).take (f j)).length))).toArray) b (at' s f (j + 1)) L K v := by
  obtain ⟨hxi, hxb⟩ := hg.wt x (List.mem_of_getElem? hx)
  have hhi := hg.hi
  have hl : ((Lib.byteCells x.b).take (f j)).length = f j := by simp [Lib.byteCells_length, hxb]; omega
  obtain ⟨cur, h1, h2, h3⟩ := row_copy h.row (1 + x.i * 32) ((Lib.byteCells x.b).take (f j)) (by rw [hl]; omega)
  refine ⟨cur, h1, by rw [hl, h2]; omega, h3.congr fun o ho => ?_, ?_, h.lf, h.lt, h.kt⟩
  · have hlen : (done f s.wait s.is (j + 1)).length = (done f s.wait s.is j).length := by rw [done_length, done_length]
    have hd := done_succ (is := s.is) (f := f) hx
    have hi : x.i < (done f s.wait s.is j).length := by rw [done_length]; exact hxi
    have key : ∀ q, byteAt (done f s.wait s.is (j + 1)) q = if q / 32 = x.i then (if q % 32 < f j then x.b.getD (q % 32) 0 else byteAt (done f s.wait s.is j) q) else byteAt (done f s.wait s.is j) q := fun q => by
      rw [hd, byteAt_set hi]
      by_cases e : q / 32 = x.i
      · rw [if_pos e, if_pos e, mix_getD hxb hf]
        split
        · rfl
        · unfold byteAt; rw [e]
      · rw [if_neg e, if_neg e]
    unfold pf
    show _ = if o = 0 then Value.int .i64 ((done f s.wait s.is (j + 1)).length : Int) else if o < 4097 then sc (done f s.wait s.is (j + 1)) (o - 1) else _
    rw [hlen]
    by_cases o0 : o = 0
    · subst o0; rw [if_pos (by omega), if_pos rfl, if_pos rfl]; rfl
    · by_cases oh : o < 4097
      · simp only [if_neg o0, if_pos oh]
        unfold sc
        rw [key]
        by_cases h5 : o < 1 + x.i * 32
        · rw [if_pos h5, if_neg (by omega)]; rfl
        · rw [if_neg h5]
          by_cases h6 : o - (1 + x.i * 32) < f j
          · rw [dif_pos (by rw [hl]; exact h6), if_pos (by omega), if_pos (by omega)]
            have hq : o - (1 + x.i * 32) = (o - 1) % 32 := by omega
            have hb : (o - 1) % 32 < x.b.length := by omega
            simp only [hq, List.getElem_take, Lib.byteCells, List.getElem_map]
            rw [List.getD_eq_getElem?_getD, List.getElem?_eq_getElem hb]; rfl
          · rw [dif_neg (by rw [hl]; exact h6)]
            by_cases h7 : (o - 1) / 32 = x.i
            · rw [if_pos h7, if_neg (by omega)]; rfl
            · rw [if_neg h7]; rfl
      · rw [if_neg (by omega), dif_neg (by rw [hl]; omega)]
        simp only [if_neg o0, if_neg oh]
        rfl
  · exact owns_kept h.own fun g hg => by
      rw [setRow_other w b g _ (fun e => h.ne (by rw [hg, e]))]

section
variable {P : Program}
/-- Cells are copied into a row that is known whole, at a step of a region that draws its order. -/
theorem step_copy_row {ops : Array Oper} {o : Oper} {a : Act} {w : World} {K : Act → World → Prop} {Q : Exit → Act → World → Prop} {E : Prop} (hgd : o.guard = none) (d s : Operand) (dT sT : TypeId)
    (ho : o.op = .call { callee := .builtin .copy, args := #[d, s], argTypes := #[dT, sT] }) (elem : TypeId) (hu : P.underlying dT = some (.slice elem)) (hsz : (P.info? elem).map (·.size) = some 1)
    (g off dLen dCap : Nat) (ad : Addr) (sLen sCap : Nat) (hd : a.eval d = .slice (some ⟨g, off, none⟩) dLen dCap) (hs : a.eval s = .slice (some ad) sLen sCap)
    (cur : Array Value) (t : TypeId) (hg : w.heap[g]? = some (.cells cur t (0, 0))) (cs : List Value) (hn : cs.length = Nat.min sLen dLen)
    (hsrc : ∀ j v, cs[j]? = some v → w.cell? (ad.add j) = some v) (hfit : off + cs.length ≤ cur.size) (h1 : ∀ v ∈ cs, v.oneCell' = true)
    (h : K (a.put o.dst (goInt cs.length)) (w.setRow g (cur.toList.take off ++ (cs ++ cur.toList.drop (off + cs.length))).toArray)) :
    if Region.wanted o (yielded ops a.tmps) = true then Oper.wp P o a w K Q else E := by
  have hw : Region.wanted o (yielded ops a.tmps) = true := by simp [Region.wanted, hgd]
  rw [if_pos hw]
  have hrun := run_copy_row (P := P) w dT sT o.type elem g off dLen dCap ad sLen sCap cur t cs hu hsz hg hn hsrc hfit h1
  unfold Oper.wp
  simp [execOp, ho, resolve, invoke, builtin, hd, hs, hrun, Result.andThen]
  exact h
end
/-- The j-th write takes place in part, at that step. -/
theorem step_settle {ops : Array Oper} {o : Oper} {a : Act} {w : World} {Kk : Act → World → Prop} {Q : Exit → Act → World → Prop} {E : Prop} (hgd : o.guard = none) (d e : Operand)
    (ho : o.op = .call { callee := .builtin .copy, args := #[d, e], argTypes := #[31, 31] })
    (b : Nat) (s : St) (f : Nat → Nat) (j L K : Nat) (v : Value) (h : PBv w b (at' s f j) L K v) (hg : Good s) (x : Wr) (hx : s.wait[j]? = some x) (hf : f j ≤ 32) (D : Nat) (hD : WB w D x)
    (hd : a.eval d = .slice (some ⟨b, 1 + x.i * 32, none⟩) (f j) 32) (he : a.eval e = .slice (some ⟨D, 1, none⟩) 32 32)
    (hK : ∀ w', PBv w' b (at' s f (j + 1)) L K v → Keeps (· = b) w w' → Kk (a.put o.dst (.int .i64 (f j))) w') :
    if Region.wanted o (yielded ops a.tmps) = true then Oper.wp Tryd.prog o a w Kk Q else E := by
  obtain ⟨cur, h1, h2, h3⟩ := h.copied hg hx hf
  have hxb := (hg.wt x (List.mem_of_getElem? hx)).2
  have hl : ((Lib.byteCells x.b).take (f j)).length = f j := by simp [Lib.byteCells_length, hxb]; omega
  refine step_copy_row hgd d e _ _ ho 5 Tryd.underlying31 info5 b (1 + x.i * 32) (f j) 32 ⟨D, 1, none⟩ 32 32 hd he cur _ h1 ((Lib.byteCells x.b).take (f j)) (by rw [hl]; exact (Nat.min_eq_right hf).symm) ?_ h2 (fun u hu => Lib.byteCells_one _ u (List.mem_of_mem_take hu)) ?_
  · intro q u hu
    rw [List.getElem?_take] at hu
    split at hu
    · rw [Go.WideShapes.add_plain]; exact hD.bytes q u hu
    · simp at hu
  · have := hK _ h3 ((Keeps.refl (fun k => k = b) w).setRow (b := b) (.inl rfl) _)
    rw [hl] at this ⊢
    exact this
end Go.Proofs.YtacdbfaoeioflaaDoor
