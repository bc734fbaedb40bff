/-
  Sync (package plate), by a contract.

  Write (package plate), by a contract.

  append as an equation at a walk's own step, for the two kinds of rows that the document's own has.

  The document's own Crash, counted, Sync and Read (weirkeepref07), by contracts.
-/
import Derived.Test.YtmmpknfkncgjpaaGreatDoorM03
import Derived.Great.BuildSlice
import Derived.Deep.DrawnRows
import Derived.Test.YtmmpknfkncgjpaaGreatDoorM04
import Derived.BigRegion
namespace Go.Proofs.YtmmpknfkncgjpaaGreatDoor
open Go.RowKit

set_option maxRecDepth 100000 in
set_option maxHeartbeats 2000000 in
theorem sync_any (b : Nat) (s : St) (F : Nat → Prop) (w : World) (h : PB w b s F) (hg : Good s) (hn : s.wait.length ≤ 1000) (hc : s.n ≤ 1000000) :
    Calls Tryz.prog 110 #[.pointer (some ⟨b, 0, none⟩)] w fun e w' => e = .returned (.int .i64 (syncE s)) ∧ Goes F w w' (PB w' b (syncS s)) := by
  have HP0 := Lib.hid h
  obtain ⟨L, K, v, h, hF⟩ := h.v
  obtain ⟨-, -, c2, -⟩ := h.cells
  clear h hF
  cases hgo : s.gone
  · rw [hgo] at c2
    have hgt : ¬ (s.gone = true) := by simp [hgo]
    have HC := Lib.hid (count_any b s F w HP0.out hg hgo hn hc)
    have HG := Lib.hid hg.count
    have HN := Lib.hid (Nat.le_trans (count_wait s) hn)
    by_cases h1 : s.left = 1
    · have e1 : syncE s = 70 := by unfold syncE; rw [if_pos (.inr h1)]
      have e2 : syncS s = count s := by unfold syncS; rw [if_neg hgt, if_pos h1]
      rw [e1, e2]
      rw [show countE s = 70 from if_pos h1] at HC
      clear h1 e1 e2 hgt hgo hg
      generalize count s = s2 at HC HG HN ⊢
      go_enter Tryz.func110, Tryz.ntmps110
      go_wp2_with (go_at_call 136; refine HC.out.mono ?_; rintro e w1 ⟨rfl, k1⟩; have K1 := Lib.hid k1; clear k1)
      go_ret
      exact ⟨rfl, K1.out⟩
    · have e1 : syncE s = 0 := by unfold syncE; rw [if_neg (fun e => by rcases e with e | e; (exact hgt e); (exact h1 e))]
      have e2 : syncS s = whole (count s) := by unfold syncS; rw [if_neg hgt, if_neg h1]
      rw [e1, e2]
      rw [show countE s = 0 from if_neg h1] at HC
      clear h1 e1 e2 hgt hgo hg
      generalize count s = s2 at HC HG HN ⊢
      go_enter Tryz.func110, Tryz.ntmps110
      go_wp2_with (first
        | (go_at_call 136; refine HC.out.mono ?_; rintro e w1 ⟨rfl, k1⟩; obtain ⟨F1, k1, k2, k3⟩ := k1; obtain ⟨L1, K1, v1, k1, k4⟩ := k1.v; have P1 := Lib.hid k1; have E1 := Lib.hid (And.intro k2 (And.intro k3 k4)); clear k1 k2 k3 k4)
        | (go_at_call 60; refine (settle_all b s2 L1 K1 v1 _ P1.out HG.out HN.out).mono ?_; rintro e w2 ⟨rfl, k1, k2⟩; have P2 := Lib.hid k1; have E2 := Lib.hid k2; clear k1 k2))
      go_ret
      exact ⟨rfl, Goes.trans E1.out.1 E1.out.2.1 (Goes.plate P2.out (E1.out.2.2 b (.inl rfl)) (fun k hk => by simp [Value.ownBlock] at hk) (E2.out.wider (fun k hk => by rw [hk]; exact E1.out.2.2 b (.inl rfl))))⟩
  · rw [hgo] at c2
    have e1 : syncE s = 70 := by unfold syncE; rw [if_pos (.inl hgo)]
    have e2 : syncS s = s := by unfold syncS; rw [if_pos hgo]
    rw [e1, e2]
    clear e1 e2 hgo
    go_enter Tryz.func110, Tryz.ntmps110
    go_wp2
    go_ret
    exact ⟨rfl, Goes.same HP0.out (Keeps.refl _ _)⟩
end Go.Proofs.YtmmpknfkncgjpaaGreatDoor

namespace Go.Proofs.YtmmpknfkncgjpaaGreatDoor
open Go.RowKit

/-- A text is copied to the head of a write's bytes. -/
theorem wpList_copy_str {ops : Array Oper} {rest : List Oper} {o : Oper} {a : Act} {w : World} {Q : Exit → Act → World → Prop} (hgd : o.guard = none) (d e : Operand)
    (ho : o.op = .call { callee := .builtin .copy, args := #[d, e], argTypes := #[73, 9] })
    (D : Nat) (i : Nat) (s : ByteArray) (hD : WB w D ⟨i, zeros 32⟩) (hd : a.eval d = .slice (some ⟨D, 1, none⟩) 32 32) (he : a.eval e = .string s) (hs : s.size ≤ 32)
    (h : ∀ wF, WB wF D ⟨i, pad s⟩ → Below D w wF → wpList Tryz.prog ops Q rest (a.put o.dst (goInt s.size)) wF) : wpList Tryz.prog ops Q (o :: rest) a w := by
  refine wpList_plain hgd fun K hK => ?_
  have hl : s.data.toList.length = s.size := by show s.data.toList.length = s.data.size; simp
  have hz : (Lib.byteCells (zeros 32)).length = 32 := by rw [Lib.byteCells_length]; simp [zeros]
  have hrun := Lib.run_copy_row_string (P := Tryz.prog) w 73 9 o.type 5 D 1 32 32 s _ _ Tryz.underlying73 info5 hD hs (by simp [wcells, hz]; omega)
  have hrow : ((wcells ⟨i, zeros 32⟩).toArray.toList.take 1 ++ Lib.byteCells s.data.toList ++ (wcells ⟨i, zeros 32⟩).toArray.toList.drop (1 + s.size)).toArray = (wcells ⟨i, pad s⟩).toArray := by
    have e1 : (wcells ⟨i, zeros 32⟩).take 1 = [.int .i64 (i : Int)] := rfl
    have e2 : (wcells ⟨i, zeros 32⟩).drop (1 + s.size) = Lib.byteCells (zeros (32 - s.size)) := by
      rw [show 1 + s.size = s.size + 1 by omega]
      show (Lib.byteCells (zeros 32)).drop s.size = _
      unfold Lib.byteCells zeros
      rw [← List.map_drop, List.drop_replicate]
    rw [List.toList_toArray, e1, e2]
    unfold wcells pad Lib.byteCells
    rw [List.map_append]
    rfl
  rw [hrow] at hrun
  unfold Oper.wp
  simp [execOp, ho, resolve, invoke, builtin, hd, he, hrun, Result.andThen]
  exact hK _ _ (h _ (setRow_heap w D (wcells ⟨i, zeros 32⟩).toArray (wcells ⟨i, pad s⟩).toArray _ _ hD) (below_setRow (Below.refl D w) (Nat.le_refl D) _))

theorem built61 (i : Nat) : Tryz.prog.built 167 [(0, .int .i64 (i : Int))] = some (wcells ⟨i, zeros 32⟩).toArray := by kernel_rfl
theorem wpList_build_wr {ops : Array Oper} {rest : List Oper} {o : Oper} {a : Act} {w : World} {Q : Exit → Act → World → Prop} (hgd : o.guard = none) (x : Operand) (ho : o.op = .build 167 #[(0, x)])
    (i : Nat) (hx : a.eval x = .int .i64 (i : Int)) (h : wpList Tryz.prog ops Q rest (a.put o.dst (.agg (wcells ⟨i, zeros 32⟩).toArray)) w) : wpList Tryz.prog ops Q (o :: rest) a w :=
  wpList_buildTo hgd _ _ ho o.dst rfl _ (by simp only [List.map_toArray, List.map_cons, List.map_nil, hx]; exact built61 i) h
theorem wpList_alloc_wr {ops : Array Oper} {rest : List Oper} {o : Oper} {a : Act} {w : World} {Q : Exit → Act → World → Prop} (hgd : o.guard = none) (ho : o.op = .alloc 167)
    (h : wpList Tryz.prog ops Q rest (a.put o.dst (.pointer (some ⟨w.heap.size, 0, none⟩))) (w.alloc (.cells (wcells ⟨0, zeros 32⟩).toArray 167))) : wpList Tryz.prog ops Q (o :: rest) a w := by
  refine wpList_plain hgd fun K hK => ?_
  have hz : (zeroValue 167).run Tryz.prog w = .ok (.agg (wcells ⟨0, zeros 32⟩).toArray) w := by
    obtain ⟨i0, hi0, hz0, hz1, hz2⟩ := info_parts info61'
    simp [zeroValue, typeInfo, hi0, hz0]
  unfold Oper.wp
  simp only [execOp, ho, Instr.alloc, Sem.run_bind, hz, Result.andThen_ok, newVar]
  simp [Result.andThen, Value.cells]
  exact hK _ _ h

theorem run_build61 (c : Wr) (hc : c.b.length = 32) (W : World) : (Instr.buildSlice 82 1 #[(0, .agg (wcells c).toArray)]).run Tryz.prog W = .ok (.slice (some ⟨W.heap.size, 0, none⟩) 1 1) (W.alloc (.cells (wcells c).toArray 167)) := by
  obtain ⟨i0, hi0, hz0, hz1, hz2⟩ := info_parts info61'
  refine run_buildSlice W _ 167 1 _ _ i0 _ Tryz.underlying82 hi0 hz0 (by rw [hz1]; omega) (by rw [hz1]; omega) ?_
  rw [hz1]
  have hl := wcells_length hc
  have := Great.fill_whole (s := 33) (by omega) [.agg (wcells c).toArray] ((Array.range (1 * 33)).map ((Value.agg (wcells ⟨0, zeros 32⟩).toArray).cells[· % (Value.agg (wcells ⟨0, zeros 32⟩).toArray).cells.size]!)) (fun v hv => by simp at hv; subst hv; simp [Value.cells, hl]) (by simp)
  simpa [Value.cells] using this

/-- A write lies whole where v points to. -/
def okL (w : World) (v : Value) : Prop := ∃ D c, c.b.length = 32 ∧ v = .pointer (some ⟨D, 0, none⟩) ∧ WB w D c
def valL (w : World) (v : Value) : Value := match v with
  | .pointer (some a) => match w.heap[a.block]? with
    | some (.cells cs _ _) => .agg cs
    | _ => undef
  | _ => undef
theorem okL_of {w : World} {D : Nat} {c : Wr} (h : WB w D c) (hc : c.b.length = 32) : okL w (.pointer (some ⟨D, 0, none⟩)) := ⟨D, c, hc, rfl, h⟩
theorem valL_of {w : World} {D : Nat} {c : Wr} (h : WB w D c) : valL w (.pointer (some ⟨D, 0, none⟩)) = .agg (wcells c).toArray := by
  unfold valL; simp only [show w.heap[D]? = _ from h]
theorem wp_loadL {d : Option Tmp} {x : Operand} {ty : TypeId} {pos : String} {after : Array Edge} {g : Option (Nat × Bool)} {a : Act} {w : World} {K : Act → World → Prop} {Q : Exit → Act → World → Prop} (h : okL w (a.eval x)) :
    Oper.wp Tryz.prog { dst := d, op := .load 167 x, type := ty, pos := pos, after := after, guard := g } a w K Q = K (a.put d (valL w (a.eval x))) w := by
  obtain ⟨D, c, hc, hx, hw⟩ := h
  rw [hx, valL_of hw]
  have hl := run_loadVar_mid (P := Tryz.prog) w D 0 167 (wcells c) _ hw.range Tryz.underlying167 rfl (by rw [info61, wcells_length hc])
  unfold Oper.wp execOp
  simp only [hx, Instr.loadAt, Instr.sureAddr, Sem.run_bind, Sem.run_pure, Result.andThen_ok, hl]
  rfl

def okB (v : Value) : Prop := ∃ c : Wr, c.b.length = 32 ∧ v = .agg (wcells c).toArray
theorem wp_buildL {d : Option Tmp} {x : Operand} {ty : TypeId} {pos : String} {after : Array Edge} {g : Option (Nat × Bool)} {a : Act} {w : World} {K : Act → World → Prop} {Q : Exit → Act → World → Prop} (h : okB (a.eval x)) :
    Oper.wp Tryz.prog { dst := d, op := .buildSlice 82 1 #[(0, x)], type := ty, pos := pos, after := after, guard := g } a w K Q = K (a.put d (.slice (some ⟨w.heap.size, 0, none⟩) 1 1)) (w.alloc (.cells (a.eval x).cells 167)) := by
  obtain ⟨c, hc, hx⟩ := h
  have hr := run_build61 c hc w
  unfold Oper.wp execOp
  simp only [List.map_toArray, List.map_cons, List.map_nil, hx, Sem.run_bind, Sem.run_pure, Result.andThen_ok, hr]
  rfl

attribute [local go_sem ↓] Go.wp_at_zero Go.wp_at_succ wp_loadL wp_buildL

/-- What waits is another row, the old one gone or not. -/
theorem PBv.putWaits {w : World} {b : Nat} {s : St} {L K : Nat} {v u : Value} {ws : List Wr} (hr : w.rowIs b 86 4102 (pf s L K v)) (lf : s.gone = false → L = s.left ∧ (s.left ≠ 0 → K = s.keep)) (lt : L < 9223372036854775808) (kt : K < 18446744073709551616)
    (ho : w.ownsRow 0 167 33 u ws.length (flat ws)) : PBv (w.setCell ⟨b, 4097, none⟩ u) b { s with wait := ws } L K u :=
  ⟨(hr.set 4097 u).congr fun o _ => pf_waits s ws L K v u o, owns_kept ho fun g hg => Below.heap_setCell _ _ _ _ (fun e => owns_ne ho hr (by decide) (by rw [hg]; exact congrArg some e)), lf, lt, kt⟩

set_option maxRecDepth 100000 in
set_option maxHeartbeats 4000000 in
theorem write_yes (b : Nat) (s : St) (F : Nat → Prop) (i : Nat) (t : ByteArray) (w : World) (h : PB w b s F) (hg : Good s) (hi : wrong s (i : Int) = 0) (ht : t.size ≤ 32) (hn : s.wait.length ≤ 900) (hc : s.n ≤ 1000000) :
    Calls Tryz.prog 109 #[.pointer (some ⟨b, 0, none⟩), .int .i64 (i : Int), .string t] w fun e w' => e = .returned (.int .i64 (countE s)) ∧ Goes F w w' (PB w' b (count (add s i t))) := by
  have HR := Lib.hid (reach_any b s F i w h)
  rw [hi] at HR
  have hbF := h.mem
  have hbl := h.lt b hbF
  have HGA := Lib.hid (hg.add hi ht)
  have hgo := (wrong_zero hi).1
  obtain ⟨L, K, v, h, hF⟩ := h.v
  have HP := Lib.hid h
  have HF := Lib.hid hF
  have HGO := Lib.hid hgo
  have htI : ¬ ((32 : Int) < (t.size : Int)) := by omega
  have hadd : add s (i : Int) t = { s with wait := s.wait ++ [⟨i, pad t⟩] } := by unfold add; rw [Int.toNat_natCast]
  rw [hadd] at HGA ⊢
  clear h hF hi hg hgo hadd
  go_enter Tryz.func109, Tryz.ntmps109
  go_wp2_with (first
    | (go_at_call 135; refine HR.out.mono ?_; rintro e w1 ⟨rfl, rfl⟩)
    | (with_reducible show wpList _ _ _ (Oper.mk _ (Op.build 167 _) _ _ _ _ :: _) _ _; refine wpList_build_wr rfl (.tmp 18) rfl i rfl ?_)
    | (with_reducible show wpList _ _ _ (Oper.mk _ (Op.alloc 167) _ _ _ _ :: _) _ _; refine wpList_alloc_wr rfl rfl ?_)
    | (with_reducible show wpList _ _ _ (Oper.mk none (Op.store 167 _ _) _ _ _ _ :: _) _ _; refine wpList_store_wr rfl (.tmp 8) (.tmp 19) rfl w.heap.size ⟨i, zeros 32⟩ (by simp [zeros]) _ rfl rfl (heap_alloc_new w _) (by simp [wcells_length, zeros]) ?_; intro wF hWB hBF; have WB1 := Lib.hid hWB; have BF1 := Lib.hid hBF; clear hWB hBF)
    | (with_reducible show wpList _ _ _ (Oper.mk (some 23) _ _ _ _ _ :: _) _ _; refine wpList_copy_str rfl (.tmp 21) (.tmp 22) rfl w.heap.size i t WB1.out rfl rfl ht ?_; intro wG hWB hBF; have WB2 := Lib.hid hWB; have BF2 := Lib.hid hBF; clear hWB hBF))
  have hsz : (w.alloc (.cells (wcells ⟨0, zeros 32⟩).toArray 167)).heap.size = w.heap.size + 1 := by simp
  have hzl : w.heap.size < wG.heap.size := by have h1 := BF1.out.size; have h2 := BF2.out.size; omega
  have hb0 : Below w.heap.size w wG.drew := ((((Below.refl _ w).alloc (Nat.le_refl _) _).trans BF1.out).trans BF2.out).drew
  have hb1 : Below w.heap.size w (wG.drew.alloc (.cells (wcells ⟨i, pad t⟩).toArray 167)) := hb0.alloc (by show w.heap.size ≤ wG.heap.size; omega) _
  have hcl : (pad t).length = 32 := pad_length ht
  have P0 := Lib.hid (HP.out.below hb0)
  have P1 := Lib.hid (HP.out.below hb1)
  have R0 := Lib.hid (show wG.drew.rangeAt w.heap.size 0 (wcells ⟨i, pad t⟩) from WB2.out.range)
  have R1 := Lib.hid (show (wG.drew.alloc (.cells (wcells ⟨i, pad t⟩).toArray 167)).rangeAt w.heap.size 0 (wcells ⟨i, pad t⟩) from World.rangeAt_alloc R0.out _)
  have hc0 := P0.out.cells.2.1
  have hc1 : (wG.alloc (.cells (wcells ⟨i, pad t⟩).toArray 167)).cell? ⟨b, 4097, none⟩ = some v := P1.out.cells.2.1
  have HN := Lib.hid (show ∀ j u, (flat [⟨i, pad t⟩])[j]? = some u → (wG.drew.alloc (.cells (wcells ⟨i, pad t⟩).toArray 167)).cell? ((⟨wG.heap.size, 0, none⟩ : Addr).add j) = some u from fun j u hu =>
    World.news_of_block (cs := (wcells ⟨i, pad t⟩).toArray) (t := 167) (fr := (0, 0)) (heap_alloc_new wG.drew _) j u (by simpa [flat_one] using hu))
  have hbs : okB (.agg (wcells ⟨i, pad t⟩).toArray) := ⟨_, hcl, rfl⟩
  have ok0 := okL_of (w := wG.drew) WB2.out hcl
  have va0 := valL_of (w := wG.drew) WB2.out
  obtain ⟨i0, hi0, hz0, hz1, hz2⟩ := info_parts info61'
  have HI := Lib.hid (And.intro hi0 (And.intro hz0 (And.intro hz1 hz2)))
  have B1 := Lib.hid hb1
  have CL := Lib.hid hcl
  have HNE := Lib.hid P1.out.ne
  clear hsz hb0 hb1 hcl hi0 hz0 hz1 hz2 R0 R1
  go_region_law
    ((refine step_append_lies _ (by rfl) (.tmp 28) (.tmp 30) 82 (by rfl) 0 167 i0 _ 33 40 Tryz.underlying82 HI.out.1 HI.out.2.1 HI.out.2.2.1 HI.out.2.2.2 (by simp [Value.cells, wcells_length, zeros]) (by omega) v s.wait.length (flat s.wait) (by rfl) P1.out.own
          ⟨wG.heap.size, 0, none⟩ 1 1 (flat [⟨i, pad t⟩]) (by rfl) (by rw [flat_one, wcells_length CL.out]) HN.out (flat_oneCell _) (by omega) (by unfold maxLen; omega) (by omega) (by simp) (wG.heap.size + 1) (by simp) ?_; intro g cap w2 hown2 hgrow hat hlt; (have hf2 : w2.frozen? ⟨b, 4097, none⟩ = false := by rw [hgrow.frozen_far _ (by have := P1.out.row.lt; simpa using this) (Ne.symm HNE.out)]; exact P1.out.row.frozen 4097); (have hc2 : w2.cell? ⟨b, 4097, none⟩ = some v := by rw [hgrow.cell_far _ (by have := P1.out.row.lt; simpa using this) (Ne.symm HNE.out)]; exact P1.out.cells.2.1)))
  all_goals
    have hr2 := P1.out.row.of_block (hgrow.block b P1.out.row.lt (fun e => HNE.out e.symm))
    have P3 := Lib.hid (PBv.putWaits (ws := s.wait ++ [⟨i, pad t⟩]) hr2 P1.out.lf P1.out.lt P1.out.kt (by rw [flat_append]; simpa using hown2))
    have K3 := Lib.hid (((Keeps.of_below (F := F) B1.out).grown (w1 := wG.drew.alloc (.cells (wcells ⟨i, pad t⟩).toArray 167)) hgrow (fun k hk => .inl (HF.out k (.inr hk)))).set (b := b) (o := 4097) (.inl hbF) (.slice (some ⟨g, 0, none⟩) (s.wait.length + 1) cap))
    have HFG := Lib.hid (show ∀ k, (k = b ∨ (Value.slice (some ⟨g, 0, none⟩) (s.wait.length + 1) cap).ownBlock = some k) → F k ∨ w.heap.size ≤ k from fun k hk => by
      rcases hk with rfl | hk
      · exact .inl hbF
      · simp only [Value.ownBlock, Option.some.injEq] at hk
        subst hk
        rcases hat with hat | hat
        · exact .inl (HF.out _ (.inr hat))
        · exact .inr (by omega))
    have HC := Lib.hid (count_any b { s with wait := s.wait ++ [⟨i, pad t⟩] } _ _ P3.out.pb HGA.out HGO.out (by show (s.wait ++ [(⟨i, pad t⟩ : Wr)]).length ≤ 1000; simp; omega) hc)
    clear hown2 hgrow hat hlt hf2 hc2 hr2 P3 ok0 va0 hbs hc0 hc1 P0 P1 HN HI B1 CL HNE WB1 WB2 BF1 BF2
    go_wp2_with (go_at_call 136; refine HC.out.mono ?_; rintro e w3 ⟨rfl, k1⟩; have K4 := Lib.hid k1; clear k1)
    go_ret
    exact ⟨rfl, Goes.trans HFG.out K3.out K4.out⟩

set_option maxRecDepth 100000 in
set_option maxHeartbeats 2000000 in
theorem write_any (b : Nat) (s : St) (F : Nat → Prop) (i : Int) (t : ByteArray) (w : World) (h : PB w b s F) (hg : Good s) (hn : s.wait.length ≤ 900) (hc : s.n ≤ 1000000) (ht : t.size ≤ 9223372036854775807) :
    Calls Tryz.prog 109 #[.pointer (some ⟨b, 0, none⟩), .int .i64 i, .string t] w fun e w' => e = .returned (.int .i64 (writeE s i t)) ∧ Goes F w w' (PB w' b (writeS s i t)) := by
  by_cases hi : wrong s i = 0
  · by_cases h32 : t.size ≤ 32
    · have e1 : writeE s i t = countE s := by unfold writeE; rw [if_neg (by omega), if_neg (by omega)]
      have e2 : writeS s i t = count (add s i t) := by unfold writeS; rw [if_neg (by omega)]
      rw [e1, e2]
      have hi0 := (wrong_zero hi).2.1
      have := write_yes b s F i.toNat t w h hg (by rw [show (i.toNat : Int) = i by omega]; exact hi) h32 hn hc
      rw [show (i.toNat : Int) = i by omega] at this
      exact this
    · have e1 : writeE s i t = 11 := by unfold writeE; rw [if_neg (by omega), if_pos (by omega)]
      have e2 : writeS s i t = s := by unfold writeS; rw [if_pos (by omega)]
      rw [e1, e2]
      have HP := Lib.hid h
      have HR := Lib.hid (reach_any b s F i w h)
      rw [hi] at HR
      have htI : (32 : Int) < (t.size : Int) := by omega
      clear h hg hi e1 e2 h32
      go_enter Tryz.func109, Tryz.ntmps109
      go_wp2_with (go_at_call 135; refine HR.out.mono ?_; rintro e w1 ⟨rfl, rfl⟩)
      go_ret
      exact ⟨rfl, Goes.same HP.out (Keeps.refl _ _)⟩
  · have e1 : writeE s i t = wrong s i := by unfold writeE; rw [if_pos hi]
    have e2 : writeS s i t = s := by unfold writeS; rw [if_pos (.inl hi)]
    rw [e1, e2]
    have HP := Lib.hid h
    have HR := Lib.hid (reach_any b s F i w h)
    generalize wrong s i = x at HR hi ⊢
    have hx : (x == 0) = false := by simpa using hi
    clear h hg e1 e2
    go_enter Tryz.func109, Tryz.ntmps109
    go_wp2_with (go_at_call 135; refine HR.out.mono ?_; rintro e w1 ⟨rfl, rfl⟩)
    go_ret
    exact ⟨rfl, Goes.same HP.out (Keeps.refl _ _)⟩
end Go.Proofs.YtmmpknfkncgjpaaGreatDoor

namespace Go.Proofs.YtmmpknfkncgjpaaGreatDoor
open Go.RowKit

section
variable {P : Program}
/-- What append answers, and the world that it leaves. -/
def appV (P : Program) (t : TypeId) (w : World) (v x : Value) : Value := match (Builtin.append_ #[t, t] t #[v, x]).run P w with
  | .ok u _ => u
  | _ => undef
def appW (P : Program) (t : TypeId) (w : World) (v x : Value) : World := match (Builtin.append_ #[t, t] t #[v, x]).run P w with
  | .ok _ w' => w'
  | _ => w
def AppS (P : Program) (t : TypeId) (w : World) (v x : Value) : Prop := (Builtin.append_ #[t, t] t #[v, x]).run P w = .ok (appV P t w v x) (appW P t w v x)
theorem app_of {t : TypeId} {w w' : World} {v x u : Value} (h : (Builtin.append_ #[t, t] t #[v, x]).run P w = .ok u w') : AppS P t w v x ∧ appV P t w v x = u ∧ appW P t w v x = w' := by
  unfold AppS appV appW
  rw [h]
  exact ⟨rfl, rfl, rfl⟩
theorem wp_appL {d : Option Tmp} {s x : Operand} {t : TypeId} {pos : String} {after : Array Edge} {g : Option (Nat × Bool)} {a : Act} {w : World} {K : Act → World → Prop} {Q : Exit → Act → World → Prop} (h : AppS P t w (a.eval s) (a.eval x)) :
    Oper.wp P { dst := d, op := .call { callee := .builtin .append, args := #[s, x], argTypes := #[t, t] }, type := t, pos := pos, after := after, guard := g } a w K Q = K (a.put d (appV P t w (a.eval s) (a.eval x))) (appW P t w (a.eval s) (a.eval x)) := by
  unfold AppS at h
  unfold Oper.wp execOp
  simp only [resolve, invoke, builtin, Sem.run_bind, Sem.run_pure, Result.andThen_ok, List.map_toArray, List.map_cons, List.map_nil, h]
  rfl
end
end Go.Proofs.YtmmpknfkncgjpaaGreatDoor

namespace Go.Proofs.YtmmpknfkncgjpaaGreatDoor
open Go.RowKit

theorem scells_set : ∀ (l : List (List UInt8)) (i : Nat) (x : List UInt8), scells (l.set i x) = (scells l).set i (.string (str x))
  | [], i, x => by simp [scells]
  | y :: l, 0, x => by simp [scells]
  | y :: l, i + 1, x => by
    have := scells_set l i x
    unfold scells at this ⊢
    rw [List.set_cons_succ, List.flatMap_cons, List.flatMap_cons, this]
    rfl
theorem scells_length (l : List (List UInt8)) : (scells l).length = l.length := by unfold scells; induction l with | nil => rfl | cons x l ih => rw [List.flatMap_cons, List.length_append, ih]; simp; omega
/-- An element of a row of one-cell elements is stored. -/
theorem owns_set {w : World} {base e n cap g : Nat} {xs : List Value} (h : w.ownsRow base e 1 (.slice (some ⟨g, 0, none⟩) n cap) n xs) (i : Nat) (u : Value) : (w.setCell ⟨g, i, none⟩ u).ownsRow base e 1 (.slice (some ⟨g, 0, none⟩) n cap) n (xs.set i u) := by
  refine ⟨by simpa using h.1, ?_⟩
  rcases h.2 with ⟨hv, _⟩ | ⟨g', cap', cur, hv, hb, hg, hn, hm, hs, ht⟩
  · cases hv
  · cases hv
    refine .inr ⟨g, cap, cur.setIfInBounds i u, rfl, hb, by simp [World.setCell, Array.getElem?_modify, hg], hn, hm, by simpa using hs, ?_⟩
    rw [Array.toList_setIfInBounds, List.take_set, ht]

/-- A sector of what lasts is another one. -/
theorem RBv.setSec {w : World} {b : Nat} {s : St} {g n cap : Nat} {vw : Value} (h : RBv w b s (.slice (some ⟨g, 0, none⟩) n cap) vw) (hn : n = s.is.length) (i : Nat) (x : List UInt8) :
    RBv (w.setCell ⟨g, i, none⟩ (.string (str x))) b { s with is := s.is.set i x } (.slice (some ⟨g, 0, none⟩) n cap) vw := by
  subst hn
  refine ⟨(h.row.setOther (fun e => h.neI (by rw [e]; rfl)) _).congr fun o _ => ?_, ?_, owns_kept h.wt fun k hk => Below.heap_setCell _ _ _ _ (fun e => h.neIW rfl (by rw [hk]; exact congrArg some e))⟩
  · unfold rf; rfl
  · show World.ownsRow _ 0 _ 1 _ (s.is.set i x).length (scells (s.is.set i x))
    rw [scells_set, List.length_set]
    exact owns_set h.is _ _

theorem share_rem (keep j : Nat) : ((keep : Int) / 2 ^ (4 * (j % 16))).tmod 16 = (share keep j : Int) := by
  have e : (keep : Int) / 2 ^ (4 * (j % 16)) = ((keep >>> (4 * (j % 16)) : Nat) : Int) := by
    rw [Nat.shiftRight_eq_div_pow]; push_cast; rfl
  rw [e]
  exact Int.ofNat_tmod _ 16
theorem mix_str {k : Nat} {new old : List UInt8} (ho : old.length = 32) : (str new).extract 0 k ++ (str old).extract k 32 = str (mix k new old) := by
  rw [str_extract, str_extract, strL_append, List.drop_zero, List.take_of_length_le (Nat.le_of_eq ho)]
  rfl

theorem mix_str15 {new old : List UInt8} (ho : old.length = 32) : (str new).extract 0 32 = str (mix 32 new old) := by
  rw [str_extract, List.drop_zero]
  unfold mix
  rw [List.drop_of_length_le (Nat.le_of_eq ho), List.append_nil]
theorem RBv.setWaits {w : World} {b : Nat} {s : St} {vi vw u : Value} {ws : List Wr} (hr : w.rowIs b 46 6 (rf s vi vw)) (hi : w.ownsRow 0 9 1 vi s.is.length (scells s.is)) (ho : w.ownsRow 0 137 2 u ws.length (ws.flatMap rcells)) : RBv (w.setCell ⟨b, 1, none⟩ u) b { s with wait := ws } vi u :=
  ⟨(hr.set 1 u).congr fun o _ => by unfold rf; by_cases e : o = 1 <;> simp [e], owns_kept hi fun g hg => Below.heap_setCell _ _ _ _ (fun e => owns_ne hi hr (by decide) (by rw [hg]; exact congrArg some e)), owns_kept ho fun g hg => Below.heap_setCell _ _ _ _ (fun e => owns_ne ho hr (by decide) (by rw [hg]; exact congrArg some e))⟩

set_option maxRecDepth 100000 in
set_option maxHeartbeats 4000000 in
theorem rcrash_any (b : Nat) (s : St) (F : Nat → Prop) (keep : Nat) (w : World) (h : RB w b s F) (hg : Good s) :
    Calls Tryz.prog 33 #[.pointer (some ⟨b, 0, none⟩), .int .u64 keep] w fun e w' => e = .returned (.tuple #[]) ∧ Goes F w w' (RB w' b (crash s keep)) := by
  have HP0 := Lib.hid h
  have hbF := h.mem
  obtain ⟨vi, vw, h, hF⟩ := h.v
  obtain ⟨-, -, c2, -⟩ := h.cells
  have hbl := h.row.lt
  cases hgo : s.gone
  · have e1 : crash s keep = { { { { s with is := done (part keep) s.wait s.is s.wait.length } with wait := [] } with gone := true } with left := 0 } := by unfold crash; rw [if_neg (by simp [hgo])]
    rw [e1]
    rw [hgo] at c2
    obtain ⟨⟨A, c, rfl, hc1, hc2, -⟩, ⟨B, d, rfl, hd1, hd2, hwt⟩⟩ := h.shapes
    have H0 := Lib.hid h
    have HG := Lib.hid hg
    have HF := Lib.hid hF
    have HWT := Lib.hid hwt
    clear h hg hF hwt e1
    unfold maxLen at hc2 hd2
    go_enter Tryz.func33, Tryz.ntmps33
    go_wp2
    go_loopw [4] (fun jv wr => ∃ j : Nat, j ≤ s.wait.length ∧ jv = .int .i64 j ∧ RBv wr b (at' s (part keep) j) (.slice A s.is.length c) (.slice B s.wait.length d) ∧ Keeps F w wr) (fun jv _ => s.wait.length - (intOf jv).toNat)
    case atStart => exact ⟨0, Nat.zero_le _, rfl, H0.out, Keeps.refl _ _⟩
    case round =>
      obtain ⟨j, hj, rfl, hP, hK⟩ := hrel
      have P1 := Lib.hid hP
      have K1 := Lib.hid hK
      have d1 := hP.cells.2.1
      clear hP hK H0
      by_cases hlt : j < s.wait.length
      · have hlI : (j : Int) < (s.wait.length : Int) := by omega
        obtain ⟨x, hx⟩ : ∃ x, s.wait[j]? = some x := ⟨_, List.getElem?_eq_getElem hlt⟩
        obtain ⟨hxi, hx32⟩ := HG.out.wt x (List.mem_of_getElem? hx)
        obtain ⟨⟨A1, c1, he1, -, -, hcI⟩, ⟨B1, c2', he2, -, -, hcW⟩⟩ := P1.out.shapes
        injection he1 with he1
        injection he2 with he2
        subst he1 he2
        obtain ⟨gw, rfl, hgw, w0, w1⟩ := hcW j x hx
        have hdl : (done (part keep) s.wait s.is j).length = s.is.length := done_length _ _ _ _
        have hxd : x.i < (done (part keep) s.wait s.is j).length := by rw [hdl]; exact hxi
        have hsec := done_sec (f := part keep) HG.out.sec HG.out.wt j x.i hxi
        have hold : (done (part keep) s.wait s.is j)[x.i]? = some ((done (part keep) s.wait s.is j).getD x.i []) := by rw [List.getD_eq_getElem?_getD, List.getElem?_eq_getElem hxd]; rfl
        obtain ⟨gi, rfl, hgi, i0⟩ := hcI x.i _ hold
        have HDS := Lib.hid (show (at' s (part keep) (j + 1)) = { at' s (part keep) j with is := (done (part keep) s.wait s.is j).set x.i (mix (part keep j) x.b ((done (part keep) s.wait s.is j).getD x.i [])) } from by unfold at'; rw [done_succ hx])
        have HDL := Lib.hid hdl
        generalize hod : (done (part keep) s.wait s.is j).getD x.i [] = old at hsec i0 HDS
        have hsh := share_rem keep j
        have hpl : part keep j = if share keep j = 15 then 32 else 2 * share keep j := rfl
        have hsl := share_lt keep j
        generalize share keep j = t at hsh hpl hsl
        have ht0 : (0 : Int) ≤ (t : Int) := by omega
        have ht1 : (t : Int) < 16 := by omega
        have hj0 : (0 : Int) ≤ (j : Int) := by omega
        have hx0 : (0 : Int) ≤ (x.i : Int) := by omega
        have hx1 : (x.i : Int) < (s.is.length : Int) := by omega
        have hz1 : (str x.b).size = 32 := by rw [str_size, hx32]
        have hz2 : (str old).size = 32 := by rw [str_size, hsec]
        have hb1 : Below wr.heap.size wr (wr.alloc (.cells #[.int .i64 (x.i : Int), .string (str x.b)] 137)) := (Below.refl _ _).alloc (Nat.le_refl _) _
        have P2 := Lib.hid (P1.out.below hb1)
        have K2 := Lib.hid (K1.out.then_below hb1)
        have f0 := P2.out.cells.1
        have f3 : (wr.alloc (.cells #[.int .i64 (x.i : Int), .string (str x.b)] 137)).cell? ⟨gi, x.i, none⟩ = some (.string (str old)) := (hb1.cell (p := ⟨gi, x.i, none⟩) hgi).trans i0
        have fz : (wr.alloc (.cells #[.int .i64 (x.i : Int), .string (str x.b)] 137)).frozen? ⟨gi, x.i, none⟩ = false := by
          obtain ⟨cur, hcur⟩ := owns_type P2.out.is rfl
          unfold World.frozen?; simp only [hcur]; simp
        have hr2 := World.rowIs_alloc wr #[.int .i64 (x.i : Int), .string (str x.b)] 137 (fun q => if q = 0 then .int .i64 (x.i : Int) else .string (str x.b)) (fun q hq => by match q, hq with | 0, _ | 1, _ => rfl)
        have f1 := hr2.cell (i := 0) (by simp)
        have f2 := hr2.cell (i := 1) (by simp)
        simp only [if_true, Nat.one_ne_zero, if_false] at f1 f2
        have HX32 := Lib.hid hx32
        have HSEC := Lib.hid hsec
        clear hx hx32 hcI hcW hdl hxd hold hod hsec i0 hb1 hr2
        have HGI := Lib.hid (HF.out gi (.inr (.inl rfl)))
        have fin : ∀ v, v = str (mix (part keep j) x.b old) → RBv ((wr.alloc (.cells #[.int .i64 (x.i : Int), .string (str x.b)] 137)).setCell ⟨gi, x.i, none⟩ (.string v)) b (at' s (part keep) (j + 1)) (.slice (some ⟨gi, 0, none⟩) s.is.length c) (.slice (some ⟨gw, 0, none⟩) s.wait.length d) := fun v hv => by
          rw [HDS.out, hv]
          exact P2.out.setSec HDL.out.symm x.i _
        have FIN := Lib.hid fin
        clear fin
        by_cases ht : t = 15
        · subst ht
          rw [if_pos rfl] at hpl
          have HPL := Lib.hid hpl
          clear hpl
          go_wp2
          generalize hW : wr.alloc (.cells #[.int .i64 (x.i : Int), .string (str x.b)] 137) = W at *
          clear hW w0 w1 hsh
          go_region
          go_wp2
          go_roundw
          case rel => exact ⟨j + 1, by omega, by go_num, (FIN.out _ (by rw [HPL.out]; exact mix_str15 HSEC.out)).below ((Below.refl _ _).drew), (K2.out.set (b := gi) (o := x.i) (.inl HGI.out) _).drew⟩
          case measure => simp [intOf]; omega
        · rw [if_neg ht] at hpl
          have HPL := Lib.hid hpl
          have ht15 : ((t : Int) == 15) = false := by simp; omega
          have hk3 : (2 * (t : Int)) = ((2 * t : Nat) : Int) := by push_cast; rfl
          clear hpl
          generalize hq : 2 * t = q at *
          have hq0 : (0 : Int) ≤ (q : Int) := by omega
          have hq1 : (q : Int) ≤ 32 := by omega
          clear hq
          go_wp2
          generalize hW : wr.alloc (.cells #[.int .i64 (x.i : Int), .string (str x.b)] 137) = W at *
          clear hW w0 w1 hsh hk3 ht15
          go_region
          go_wp2
          go_roundw
          case rel => exact ⟨j + 1, by omega, by go_num, (FIN.out _ (by rw [HPL.out]; exact mix_str HSEC.out)).below ((Below.refl _ _).drew), (K2.out.set (b := gi) (o := x.i) (.inl HGI.out) _).drew⟩
          case measure => simp [intOf]; omega
      · obtain rfl : j = s.wait.length := by omega
        have hlI : ¬ ((s.wait.length : Int) < (s.wait.length : Int)) := by omega
        have c2' := P1.out.cells.2.2.1
        have c3 := P1.out.cells.2.2.2.1
        have z1 := P1.out.row.frozen 1
        have z2 := P1.out.row.frozen 2
        have z3 := P1.out.row.frozen 3
        have PF := Lib.hid (((RBv.setWaits (ws := []) (u := .slice none 0 0) P1.out.row P1.out.is (World.ownsRow_nil _ _ _ _)).setGone true).setLeft 0)
        have KF := Lib.hid (((K1.out.set (b := b) (o := 1) (.inl hbF) (.slice none 0 0)).set (b := b) (o := 2) (.inl hbF) (.bool true)).set (b := b) (o := 3) (.inl hbF) (.int .i64 ((0 : Nat) : Int)))
        have e0 : ((0 : Nat) : Int) = 0 := rfl
        rw [e0] at PF KF
        clear e0 hj
        go_wp2
        go_end0
        exact ⟨rfl, Goes.ref PF.out hbF (fun k hk => .inl (HF.out k (.inr (.inl hk)))) (fun k hk => by simp [Value.ownBlock] at hk) KF.out⟩
  · have e1 : crash s keep = s := by unfold crash; rw [if_pos hgo]
    rw [e1]
    rw [hgo] at c2
    clear h hg hF e1
    go_enter Tryz.func33, Tryz.ntmps33
    go_wp2
    exact bodyPost_ret (results_none rfl _ _ _) rfl ⟨rfl, Goes.same HP0.out (Keeps.refl _ _)⟩
end Go.Proofs.YtmmpknfkncgjpaaGreatDoor
