/-
  Write (package plate), by a contract.
-/
import Derived.Test.YtacdbfaoeioflaaDoorCrash
import Derived.Great.BuildSlice
import Derived.Deep.DrawnRows
namespace Go.Proofs.YtacdbfaoeioflaaDoor
open Go.RowKit

/-- A text is copied to the head of a write's bytes. -/
theorem wpList_copy_str {ops : Array Oper} {rest : List Oper} {o : Oper} {a : Act} {w : World} {Q : Exit → Act → World → Prop} (hgd : o.guard = none) (d e : Operand)
    (ho : o.op = .call { callee := .builtin .copy, args := #[d, e], argTypes := #[31, 9] })
    (D : Nat) (i : Nat) (s : ByteArray) (hD : WB w D ⟨i, zeros 32⟩) (hd : a.eval d = .slice (some ⟨D, 1, none⟩) 32 32) (he : a.eval e = .string s) (hs : s.size ≤ 32)
    (h : ∀ wF, WB wF D ⟨i, pad s⟩ → Below D w wF → wpList Tryd.prog ops Q rest (a.put o.dst (goInt s.size)) wF) : wpList Tryd.prog ops Q (o :: rest) a w := by
  refine wpList_plain hgd fun K hK => ?_
  have hl : s.data.toList.length = s.size := by show s.data.toList.length = s.data.size; simp
  have hz : (Lib.byteCells (zeros 32)).length = 32 := by rw [Lib.byteCells_length]; simp [zeros]
  have hrun := Lib.run_copy_row_string (P := Tryd.prog) w 31 9 o.type 5 D 1 32 32 s _ _ Tryd.underlying31 info5 hD hs (by simp [wcells, hz]; omega)
  have hrow : ((wcells ⟨i, zeros 32⟩).toArray.toList.take 1 ++ Lib.byteCells s.data.toList ++ (wcells ⟨i, zeros 32⟩).toArray.toList.drop (1 + s.size)).toArray = (wcells ⟨i, pad s⟩).toArray := by
    have e1 : (wcells ⟨i, zeros 32⟩).take 1 = [.int .i64 (i : Int)] := rfl
    have e2 : (wcells ⟨i, zeros 32⟩).drop (1 + s.size) = Lib.byteCells (zeros (32 - s.size)) := by
      rw [show 1 + s.size = s.size + 1 by omega]
      show (Lib.byteCells (zeros 32)).drop s.size = _
      unfold Lib.byteCells zeros
      rw [← List.map_drop, List.drop_replicate]
    rw [List.toList_toArray, e1, e2]
    unfold wcells pad Lib.byteCells
    rw [List.map_append]
    rfl
  rw [hrow] at hrun
  unfold Oper.wp
  simp [execOp, ho, resolve, invoke, builtin, hd, he, hrun, Result.andThen]
  exact hK _ _ (h _ (setRow_heap w D (wcells ⟨i, zeros 32⟩).toArray (wcells ⟨i, pad s⟩).toArray _ _ hD) (below_setRow (Below.refl D w) (Nat.le_refl D) _))

theorem built61 (i : Nat) : Tryd.prog.built 148 [(0, .int .i64 (i : Int))] = some (wcells ⟨i, zeros 32⟩).toArray := by kernel_rfl
theorem wpList_build_wr {ops : Array Oper} {rest : List Oper} {o : Oper} {a : Act} {w : World} {Q : Exit → Act → World → Prop} (hgd : o.guard = none) (x : Operand) (ho : o.op = .build 148 #[(0, x)])
    (i : Nat) (hx : a.eval x = .int .i64 (i : Int)) (h : wpList Tryd.prog ops Q rest (a.put o.dst (.agg (wcells ⟨i, zeros 32⟩).toArray)) w) : wpList Tryd.prog ops Q (o :: rest) a w :=
  wpList_buildTo hgd _ _ ho o.dst rfl _ (by simp only [List.map_toArray, List.map_cons, List.map_nil, hx]; exact built61 i) h
theorem wpList_alloc_wr {ops : Array Oper} {rest : List Oper} {o : Oper} {a : Act} {w : World} {Q : Exit → Act → World → Prop} (hgd : o.guard = none) (ho : o.op = .alloc 148)
    (h : wpList Tryd.prog ops Q rest (a.put o.dst (.pointer (some ⟨w.heap.size, 0, none⟩))) (w.alloc (.cells (wcells ⟨0, zeros 32⟩).toArray 148))) : wpList Tryd.prog ops Q (o :: rest) a w := by
  refine wpList_plain hgd fun K hK => ?_
  have hz : (zeroValue 148).run Tryd.prog w = .ok (.agg (wcells ⟨0, zeros 32⟩).toArray) w := by
    obtain ⟨i0, hi0, hz0, hz1, hz2⟩ := info_parts info61'
    simp [zeroValue, typeInfo, hi0, hz0]
  unfold Oper.wp
  simp only [execOp, ho, Instr.alloc, Sem.run_bind, hz, Result.andThen_ok, newVar]
  simp [Result.andThen, Value.cells]
  exact hK _ _ h

theorem run_build61 (c : Wr) (hc : c.b.length = 32) (W : World) : (Instr.buildSlice 98 1 #[(0, .agg (wcells c).toArray)]).run Tryd.prog W = .ok (.slice (some ⟨W.heap.size, 0, none⟩) 1 1) (W.alloc (.cells (wcells c).toArray 148)) := by
  obtain ⟨i0, hi0, hz0, hz1, hz2⟩ := info_parts info61'
  refine run_buildSlice W _ 148 1 _ _ i0 _ Tryd.underlying98 hi0 hz0 (by rw [hz1]; omega) (by rw [hz1]; omega) ?_
  rw [hz1]
  have hl := wcells_length hc
  have := Great.fill_whole (s := 33) (by omega) [.agg (wcells c).toArray] ((Array.range (1 * 33)).map ((Value.agg (wcells ⟨0, zeros 32⟩).toArray).cells[· % (Value.agg (wcells ⟨0, zeros 32⟩).toArray).cells.size]!)) (fun v hv => by simp at hv; subst hv; simp [Value.cells, hl]) (by simp)
  simpa [Value.cells] using this

/-- A write lies whole where v points to. -/
def okL (w : World) (v : Value) : Prop := ∃ D c, c.b.length = 32 ∧ v = .pointer (some ⟨D, 0, none⟩) ∧ WB w D c
def valL (w : World) (v : Value) : Value := match v with
  | .pointer (some a) => match w.heap[a.block]? with
    | some (.cells cs _ _) => .agg cs
    | _ => undef
  | _ => undef
theorem okL_of {w : World} {D : Nat} {c : Wr} (h : WB w D c) (hc : c.b.length = 32) : okL w (.pointer (some ⟨D, 0, none⟩)) := ⟨D, c, hc, rfl, h⟩
theorem valL_of {w : World} {D : Nat} {c : Wr} (h : WB w D c) : valL w (.pointer (some ⟨D, 0, none⟩)) = .agg (wcells c).toArray := by
  unfold valL; simp only [show w.heap[D]? = _ from h]
theorem wp_loadL {d : Option Tmp} {x : Operand} {ty : TypeId} {pos : String} {after : Array Edge} {g : Option (Nat × Bool)} {a : Act} {w : World} {K : Act → World → Prop} {Q : Exit → Act → World → Prop} (h : okL w (a.eval x)) :
    Oper.wp Tryd.prog { dst := d, op := .load 148 x, type := ty, pos := pos, after := after, guard := g } a w K Q = K (a.put d (valL w (a.eval x))) w := by
  obtain ⟨D, c, hc, hx, hw⟩ := h
  rw [hx, valL_of hw]
  have hl := run_loadVar_mid (P := Tryd.prog) w D 0 148 (wcells c) _ hw.range Tryd.underlying148 rfl (by rw [info61, wcells_length hc])
  unfold Oper.wp execOp
  simp only [hx, Instr.loadAt, Instr.sureAddr, Sem.run_bind, Sem.run_pure, Result.andThen_ok, hl]
  rfl

def okB (v : Value) : Prop := ∃ c : Wr, c.b.length = 32 ∧ v = .agg (wcells c).toArray
theorem wp_buildL {d : Option Tmp} {x : Operand} {ty : TypeId} {pos : String} {after : Array Edge} {g : Option (Nat × Bool)} {a : Act} {w : World} {K : Act → World → Prop} {Q : Exit → Act → World → Prop} (h : okB (a.eval x)) :
    Oper.wp Tryd.prog { dst := d, op := .buildSlice 98 1 #[(0, x)], type := ty, pos := pos, after := after, guard := g } a w K Q = K (a.put d (.slice (some ⟨w.heap.size, 0, none⟩) 1 1)) (w.alloc (.cells (a.eval x).cells 148)) := by
  obtain ⟨c, hc, hx⟩ := h
  have hr := run_build61 c hc w
  unfold Oper.wp execOp
  simp only [List.map_toArray, List.map_cons, List.map_nil, hx, Sem.run_bind, Sem.run_pure, Result.andThen_ok, hr]
  rfl

attribute [local go_sem ↓] Go.wp_at_zero Go.wp_at_succ wp_loadL wp_buildL

/-- What waits is another row, the old one gone or not. -/
theorem PBv.putWaits {w : World} {b : Nat} {s : St} {L K : Nat} {v u : Value} {ws : List Wr} (hr : w.rowIs b 103 4102 (pf s L K v)) (lf : s.gone = false → L = s.left ∧ (s.left ≠ 0 → K = s.keep)) (lt : L < 9223372036854775808) (kt : K < 18446744073709551616)
    (ho : w.ownsRow 0 148 33 u ws.length (flat ws)) : PBv (w.setCell ⟨b, 4097, none⟩ u) b { s with wait := ws } L K u :=
  ⟨(hr.set 4097 u).congr fun o _ => pf_waits s ws L K v u o, owns_kept ho fun g hg => Below.heap_setCell _ _ _ _ (fun e => owns_ne ho hr (by decide) (by rw [hg]; exact congrArg some e)), lf, lt, kt⟩

set_option maxRecDepth 100000 in
set_option maxHeartbeats 4000000 in
theorem write_yes (b : Nat) (s : St) (F : Nat → Prop) (i : Nat) (t : ByteArray) (w : World) (h : PB w b s F) (hg : Good s) (hi : wrong s (i : Int) = 0) (ht : t.size ≤ 32) (hn : s.wait.length ≤ 900) (hc : s.n ≤ 1000000) :
    Calls Tryd.prog 61 #[.pointer (some ⟨b, 0, none⟩), .int .i64 (i : Int), .string t] w fun e w' => e = .returned (.int .i64 (countE s)) ∧ Goes F w w' (PB w' b (count (add s i t))) := by
  have HR := Lib.hid (reach_any b s F i w h)
  rw [hi] at HR
  have hbF := h.mem
  have hbl := h.lt b hbF
  have HGA := Lib.hid (hg.add hi ht)
  have hgo := (wrong_zero hi).1
  obtain ⟨L, K, v, h, hF⟩ := h.v
  have HP := Lib.hid h
  have HF := Lib.hid hF
  have HGO := Lib.hid hgo
  have htI : ¬ ((32 : Int) < (t.size : Int)) := by omega
  have hadd : add s (i : Int) t = { s with wait := s.wait ++ [⟨i, pad t⟩] } := by unfold add; rw [Int.toNat_natCast]
  rw [hadd] at HGA ⊢
  clear h hF hi hg hgo hadd
  go_enter Tryd.func61, Tryd.ntmps61
  go_wp2_with (first
    | (go_at_call 67; refine HR.out.mono ?_; rintro e w1 ⟨rfl, rfl⟩)
    | (with_reducible show wpList _ _ _ (Oper.mk _ (Op.build 148 _) _ _ _ _ :: _) _ _; refine wpList_build_wr rfl (.tmp 18) rfl i rfl ?_)
    | (with_reducible show wpList _ _ _ (Oper.mk _ (Op.alloc 148) _ _ _ _ :: _) _ _; refine wpList_alloc_wr rfl rfl ?_)
    | (with_reducible show wpList _ _ _ (Oper.mk none (Op.store 148 _ _) _ _ _ _ :: _) _ _; refine wpList_store_wr rfl (.tmp 8) (.tmp 19) rfl w.heap.size ⟨i, zeros 32⟩ (by simp [zeros]) _ rfl rfl (heap_alloc_new w _) (by simp [wcells_length, zeros]) ?_; intro wF hWB hBF; have WB1 := Lib.hid hWB; have BF1 := Lib.hid hBF; clear hWB hBF)
    | (with_reducible show wpList _ _ _ (Oper.mk (some 23) _ _ _ _ _ :: _) _ _; refine wpList_copy_str rfl (.tmp 21) (.tmp 22) rfl w.heap.size i t WB1.out rfl rfl ht ?_; intro wG hWB hBF; have WB2 := Lib.hid hWB; have BF2 := Lib.hid hBF; clear hWB hBF))
  have hsz : (w.alloc (.cells (wcells ⟨0, zeros 32⟩).toArray 148)).heap.size = w.heap.size + 1 := by simp
  have hzl : w.heap.size < wG.heap.size := by have h1 := BF1.out.size; have h2 := BF2.out.size; omega
  have hb0 : Below w.heap.size w wG.drew := ((((Below.refl _ w).alloc (Nat.le_refl _) _).trans BF1.out).trans BF2.out).drew
  have hb1 : Below w.heap.size w (wG.drew.alloc (.cells (wcells ⟨i, pad t⟩).toArray 148)) := hb0.alloc (by show w.heap.size ≤ wG.heap.size; omega) _
  have hcl : (pad t).length = 32 := pad_length ht
  have P0 := Lib.hid (HP.out.below hb0)
  have P1 := Lib.hid (HP.out.below hb1)
  have R0 := Lib.hid (show wG.drew.rangeAt w.heap.size 0 (wcells ⟨i, pad t⟩) from WB2.out.range)
  have R1 := Lib.hid (show (wG.drew.alloc (.cells (wcells ⟨i, pad t⟩).toArray 148)).rangeAt w.heap.size 0 (wcells ⟨i, pad t⟩) from World.rangeAt_alloc R0.out _)
  have hc0 := P0.out.cells.2.1
  have hc1 : (wG.alloc (.cells (wcells ⟨i, pad t⟩).toArray 148)).cell? ⟨b, 4097, none⟩ = some v := P1.out.cells.2.1
  have HN := Lib.hid (show ∀ j u, (flat [⟨i, pad t⟩])[j]? = some u → (wG.drew.alloc (.cells (wcells ⟨i, pad t⟩).toArray 148)).cell? ((⟨wG.heap.size, 0, none⟩ : Addr).add j) = some u from fun j u hu =>
    World.news_of_block (cs := (wcells ⟨i, pad t⟩).toArray) (t := 148) (fr := (0, 0)) (heap_alloc_new wG.drew _) j u (by simpa [flat_one] using hu))
  have hbs : okB (.agg (wcells ⟨i, pad t⟩).toArray) := ⟨_, hcl, rfl⟩
  have ok0 := okL_of (w := wG.drew) WB2.out hcl
  have va0 := valL_of (w := wG.drew) WB2.out
  obtain ⟨i0, hi0, hz0, hz1, hz2⟩ := info_parts info61'
  have HI := Lib.hid (And.intro hi0 (And.intro hz0 (And.intro hz1 hz2)))
  have B1 := Lib.hid hb1
  have CL := Lib.hid hcl
  have HNE := Lib.hid P1.out.ne
  clear hsz hb0 hb1 hcl hi0 hz0 hz1 hz2 R0 R1
  go_region_law
    ((refine step_append_lies _ (by rfl) (.tmp 28) (.tmp 30) 98 (by rfl) 0 148 i0 _ 33 40 Tryd.underlying98 HI.out.1 HI.out.2.1 HI.out.2.2.1 HI.out.2.2.2 (by simp [Value.cells, wcells_length, zeros]) (by omega) v s.wait.length (flat s.wait) (by rfl) P1.out.own
          ⟨wG.heap.size, 0, none⟩ 1 1 (flat [⟨i, pad t⟩]) (by rfl) (by rw [flat_one, wcells_length CL.out]) HN.out (flat_oneCell _) (by omega) (by unfold maxLen; omega) (by omega) (by simp) (wG.heap.size + 1) (by simp) ?_; intro g cap w2 hown2 hgrow hat hlt; (have hf2 : w2.frozen? ⟨b, 4097, none⟩ = false := by rw [hgrow.frozen_far _ (by have := P1.out.row.lt; simpa using this) (Ne.symm HNE.out)]; exact P1.out.row.frozen 4097); (have hc2 : w2.cell? ⟨b, 4097, none⟩ = some v := by rw [hgrow.cell_far _ (by have := P1.out.row.lt; simpa using this) (Ne.symm HNE.out)]; exact P1.out.cells.2.1)))
  all_goals
    have hr2 := P1.out.row.of_block (hgrow.block b P1.out.row.lt (fun e => HNE.out e.symm))
    have P3 := Lib.hid (PBv.putWaits (ws := s.wait ++ [⟨i, pad t⟩]) hr2 P1.out.lf P1.out.lt P1.out.kt (by rw [flat_append]; simpa using hown2))
    have K3 := Lib.hid (((Keeps.of_below (F := F) B1.out).grown (w1 := wG.drew.alloc (.cells (wcells ⟨i, pad t⟩).toArray 148)) hgrow (fun k hk => .inl (HF.out k (.inr hk)))).set (b := b) (o := 4097) (.inl hbF) (.slice (some ⟨g, 0, none⟩) (s.wait.length + 1) cap))
    have HFG := Lib.hid (show ∀ k, (k = b ∨ (Value.slice (some ⟨g, 0, none⟩) (s.wait.length + 1) cap).ownBlock = some k) → F k ∨ w.heap.size ≤ k from fun k hk => by
      rcases hk with rfl | hk
      · exact .inl hbF
      · simp only [Value.ownBlock, Option.some.injEq] at hk
        subst hk
        rcases hat with hat | hat
        · exact .inl (HF.out _ (.inr hat))
        · exact .inr (by omega))
    have HC := Lib.hid (count_any b { s with wait := s.wait ++ [⟨i, pad t⟩] } _ _ P3.out.pb HGA.out HGO.out (by show (s.wait ++ [(⟨i, pad t⟩ : Wr)]).length ≤ 1000; simp; omega) hc)
    clear hown2 hgrow hat hlt hf2 hc2 hr2 P3 ok0 va0 hbs hc0 hc1 P0 P1 HN HI B1 CL HNE WB1 WB2 BF1 BF2
    go_wp2_with (go_at_call 69; refine HC.out.mono ?_; rintro e w3 ⟨rfl, k1⟩; have K4 := Lib.hid k1; clear k1)
    go_ret
    exact ⟨rfl, Goes.trans HFG.out K3.out K4.out⟩

set_option maxRecDepth 100000 in
set_option maxHeartbeats 2000000 in
theorem write_any (b : Nat) (s : St) (F : Nat → Prop) (i : Int) (t : ByteArray) (w : World) (h : PB w b s F) (hg : Good s) (hn : s.wait.length ≤ 900) (hc : s.n ≤ 1000000) (ht : t.size ≤ 9223372036854775807) :
    Calls Tryd.prog 61 #[.pointer (some ⟨b, 0, none⟩), .int .i64 i, .string t] w fun e w' => e = .returned (.int .i64 (writeE s i t)) ∧ Goes F w w' (PB w' b (writeS s i t)) := by
  by_cases hi : wrong s i = 0
  · by_cases h32 : t.size ≤ 32
    · have e1 : writeE s i t = countE s := by unfold writeE; rw [if_neg (by omega), if_neg (by omega)]
      have e2 : writeS s i t = count (add s i t) := by unfold writeS; rw [if_neg (by omega)]
      rw [e1, e2]
      have hi0 := (wrong_zero hi).2.1
      have := write_yes b s F i.toNat t w h hg (by rw [show (i.toNat : Int) = i by omega]; exact hi) h32 hn hc
      rw [show (i.toNat : Int) = i by omega] at this
      exact this
    · have e1 : writeE s i t = 11 := by unfold writeE; rw [if_neg (by omega), if_pos (by omega)]
      have e2 : writeS s i t = s := by unfold writeS; rw [if_pos (by omega)]
      rw [e1, e2]
      have HP := Lib.hid h
      have HR := Lib.hid (reach_any b s F i w h)
      rw [hi] at HR
      have htI : (32 : Int) < (t.size : Int) := by omega
      clear h hg hi e1 e2 h32
      go_enter Tryd.func61, Tryd.ntmps61
      go_wp2_with (go_at_call 67; refine HR.out.mono ?_; rintro e w1 ⟨rfl, rfl⟩)
      go_ret
      exact ⟨rfl, Goes.same HP.out (Keeps.refl _ _)⟩
  · have e1 : writeE s i t = wrong s i := by unfold writeE; rw [if_pos hi]
    have e2 : writeS s i t = s := by unfold writeS; rw [if_pos (.inl hi)]
    rw [e1, e2]
    have HP := Lib.hid h
    have HR := Lib.hid (reach_any b s F i w h)
    generalize wrong s i = x at HR hi ⊢
    have hx : (x == 0) = false := by simpa using hi
    clear h hg e1 e2
    go_enter Tryd.func61, Tryd.ntmps61
    go_wp2_with (go_at_call 67; refine HR.out.mono ?_; rintro e w1 ⟨rfl, rfl⟩)
    go_ret
    exact ⟨rfl, Goes.same HP.out (Keeps.refl _ _)⟩
end Go.Proofs.YtacdbfaoeioflaaDoor
