/-
  errors.Is, find, wrong (package shelf), by contracts; Join of errors that are joined themselves.

  wrong (package shelf): all that is wrong with a block and its mark, by a contract.

  When two blocks are the same.
-/
import Derived.Test.YtmmpknfkncgjpaaGreatDoorM23
import Derived.Deep.DrawnRows
import Derived.Great.BuildSlice
import Derived.Great.FillDense
import Derived.Laws.StructEq
namespace Go.Proofs.YtmmpknfkncgjpaaGreatDoor
open Go.RowKit Go.Extern.Stop Go.Stop Go.Extern

theorem ES0.form {v : Value} {es : List Int} (h : ES0 v es) : (v = .nilIface ∧ es = []) ∨ ∃ x, v = errV x ∧ es = [x] := h
theorem ES.form {w : World} {d : Nat} {v : Value} {es : List Int} (h : ES w d v es) : (v = .nilIface ∧ es = []) ∨ (∃ x, v = errV x) ∨ ∃ b, v = joinV b := by
  cases d with
  | zero => rcases h with h | ⟨x, h, _⟩; (exact .inl h); (exact .inr (.inl ⟨x, h⟩))
  | succ d =>
    rcases h with (h | ⟨x, h, _⟩) | ⟨b, _, _, h, _⟩
    · exact .inl h
    · exact .inr (.inl ⟨x, h⟩)
    · exact .inr (.inr ⟨b, h⟩)
theorem ES.up {w : World} {v : Value} {es : List Int} (h : ES0 v es) : ∀ d, ES w d v es
  | 0 => h
  | _ + 1 => .inl h
theorem ES.ev {w : World} {d : Nat} {v : Value} {es : List Int} (h : ES w d v es) : EV v := by
  rcases h.form with ⟨h, _⟩ | h | h
  · exact .inl h
  · exact .inr (.inl h)
  · exact .inr (.inr h)

theorem eqNE (y : Int) (w : World) : (binOp .eql 93 .nilIface (errV y)).run Tryz.prog w = .ok (.bool false) w := by kernel_rfl
set_option maxRecDepth 100000 in
set_option maxHeartbeats 2000000 in
theorem eis_any (d : Nat) (v : Value) (es : List Int) (y : Int) (w : World) (h : ES w d v es) :
    Calls Tryz.prog 128 #[v, errV y] w fun e w' => e = .returned (.bool (decide (y ∈ es))) ∧ w = w' := by
  have h10 := @run_callFunc_extern Tryz.prog 150 _ ReflectliteType.typeOf Tryz.func150 (by kernel_rfl) (by kernel_rfl) (by kernel_rfl) (by kernel_rfl)
  have h97 := @run_callFunc_extern Tryz.prog 224 _ (ReflectliteType.method fun t => do Rtype.noPackHeld "Comparable" t; pure (.bool (← typeInfo t).comparable)) Tryz.func224 (by kernel_rfl) (by kernel_rfl) (by kernel_rfl) (by kernel_rfl)
  have tT := typeOfE
  have cT := comparableE
  have HF := h.form
  have HI := Lib.hid (fun hn => is_any d v es y w hn h)
  obtain ⟨p, hp⟩ : ∃ p, decide (y ∈ es) = p := ⟨_, rfl⟩
  rw [hp] at HI ⊢
  have HP := Lib.hid hp
  clear h hp
  rcases HF with ⟨rfl, rfl⟩ | ⟨x, rfl⟩ | ⟨b, rfl⟩
  · obtain rfl : p = false := by rw [← HP.out]; simp
    have hne := eqNE y w
    go_enter Tryz.func128, Tryz.ntmps128
    go_wp2
    go_ret
    exact ⟨rfl, rfl⟩
  all_goals
    go_enter Tryz.func128, Tryz.ntmps128
    go_wp2_with fail
    go_at_call 151
    refine (HI.out rfl).mono ?_
    rintro e w' ⟨rfl, rfl⟩
    go_wp2
    go_ret
    exact ⟨rfl, rfl⟩

/-- Several errors, with the numbers of each. -/
structure ArgE (w : World) (d g : Nat) (ps : List (Value × List Int)) : Prop where
  few : ps.length ≤ 100
  es : ∀ p ∈ ps, ES w d p.1 p.2
  cell : ∀ (j : Nat) (p : Value × List Int), ps[j]? = some p → w.cell? ⟨g, j, none⟩ = some p.1
theorem es_nil {w : World} {d : Nat} {v : Value} {es : List Int} (h : ES w d v es) (hn : notN v = false) : es = [] := by
  rcases h.form with ⟨_, h⟩ | ⟨x, rfl⟩ | ⟨b, rfl⟩
  · exact h
  · cases hn
  · cases hn
theorem kept_pairs (ps : List (Value × List Int)) : kept (ps.map (·.1)) = (ps.filter fun p => notN p.1).map (·.1) := by
  unfold kept; rw [List.filter_map]; rfl
theorem flat_pairs {w : World} {d : Nat} {ps : List (Value × List Int)} (h : ∀ p ∈ ps, ES w d p.1 p.2) : ((ps.filter fun p => notN p.1).map (·.2)).flatten = ps.flatMap (·.2) := by
  induction ps with
  | nil => rfl
  | cons p ps ih =>
    have ih' := ih fun q hq => h q (by simp [hq])
    rw [List.flatMap_cons, List.filter_cons]
    cases hn : notN p.1
    · rw [es_nil (h p (by simp)) hn]
      simpa using ih'
    · simp only [if_true, List.map_cons, List.flatten_cons, ih']
theorem join_es (d g c : Nat) (ps : List (Value × List Int)) (n : Nat) (w : World) (hA : ArgE w d g ps) (hn : ps.length = n) :
    Calls Tryz.prog 129 #[.slice (some ⟨g, 0, none⟩) n c] w fun e w' => ∃ v, e = .returned v ∧ ES w' (d + 1) v (ps.flatMap (·.2)) ∧ Below w.heap.size w w' := by
  have hA' : Args w g n (ps.map (·.1)) := ⟨by rw [List.length_map]; exact hn, by rw [← hn]; exact hA.few, fun v hv => by
    obtain ⟨p, hp, rfl⟩ := List.mem_map.1 hv
    exact (hA.es p hp).ev, fun j v hv => by
    rw [List.getElem?_map] at hv
    obtain ⟨p, hp, rfl⟩ := Option.map_eq_some_iff.1 hv
    exact hA.cell j p hp⟩
  refine (join_any g n c _ w hA').mono ?_
  rintro e w' ⟨h, hb⟩
  have hfl := flat_pairs hA.es
  rw [kept_pairs] at h
  rcases h with ⟨h0, rfl⟩ | ⟨b, rfl, hJ⟩
  · refine ⟨_, rfl, .inl (.inl ⟨rfl, ?_⟩), hb⟩
    rw [← hfl, List.map_eq_nil_iff.1 h0]; rfl
  · refine ⟨_, rfl, .inr ⟨b, _, (ps.filter fun p => notN p.1).map (·.2), rfl, hJ, by simp, ?_, fun j u hu => ?_, hfl.symm⟩, hb⟩
    · rw [List.length_map]; exact Nat.le_trans (List.length_filter_le _ _) hA.few
    · rw [List.getElem?_map] at hu
      obtain ⟨p, hp, rfl⟩ := Option.map_eq_some_iff.1 hu
      have hm := List.mem_filter.1 (List.mem_of_getElem? hp)
      exact ⟨hm.2, p.2, by rw [List.getElem?_map, hp]; rfl, (hA.es p hm.1).below hb⟩

/-- The first of these numbers that is among them. -/
def findE (os es : List Int) : Int := (os.find? fun o => decide (o ∈ es)).getD 0
theorem findE_at {os es : List Int} {k : Nat} {o : Int} (h0 : ∀ j x, j < k → os[j]? = some x → x ∉ es) (hk : os[k]? = some o) (ho : o ∈ es) : findE os es = o := by
  have hkl : k < os.length := (List.getElem?_eq_some_iff.1 hk).1
  have : os.find? (fun o => decide (o ∈ es)) = some o := by
    rw [List.find?_eq_some_iff_getElem]
    refine ⟨by simpa using ho, k, hkl, (List.getElem?_eq_some_iff.1 hk).2, fun j hj => ?_⟩
    have := h0 j os[j] hj (List.getElem?_eq_getElem (by omega))
    simpa using this
  unfold findE; rw [this]; rfl
theorem findE_no {os es : List Int} (h0 : ∀ (j : Nat) x, j < os.length → os[j]? = some x → x ∉ es) : findE os es = 0 := by
  have : os.find? (fun o => decide (o ∈ es)) = none := List.find?_eq_none.2 fun x hx => by
    obtain ⟨j, hj⟩ := List.getElem?_of_mem hx
    simpa using h0 j x (List.getElem?_eq_some_iff.1 hj).1 hj
  unfold findE; rw [this]; rfl

set_option maxRecDepth 100000 in
set_option maxHeartbeats 2000000 in
theorem find_any (d g n c : Nat) (v : Value) (es os : List Int) (w : World) (h : ES w d v es) (hn : os.length = n) (hn1 : n ≤ 100) (hc : ∀ (j : Nat) x, os[j]? = some x → w.cell? ⟨g, j, none⟩ = some (.int .i64 x)) :
    Calls Tryz.prog 102 #[v, .slice (some ⟨g, 0, none⟩) n c] w fun e w' => e = .returned (.int .i64 (findE os es)) ∧ w = w' := by
  obtain ⟨ans, hans⟩ : ∃ ans, findE os es = ans := ⟨_, rfl⟩
  rw [hans]
  have HA := Lib.hid hans
  have HI := Lib.hid (fun y => eis_any d v es y w h)
  have HC := Lib.hid hc
  clear h hc hans
  go_enter Tryz.func102, Tryz.ntmps102
  go_wp2
  go_loop [9] (fun iv => ∃ k : Nat, k ≤ n ∧ iv = .int .i64 k ∧ ∀ j x, j < k → os[j]? = some x → x ∉ es) (fun iv => n - (intOf iv).toNat)
  case atStart => exact ⟨0, Nat.zero_le _, rfl, fun j x hj => by omega⟩
  case round =>
    obtain ⟨k, hk, rfl, hno⟩ := hrel
    have HN := Lib.hid hno
    clear hno
    by_cases hlt : k < n
    · have hlI : (k : Int) < (n : Int) := by omega
      have hkI : (0 : Int) ≤ (k : Int) := by omega
      obtain ⟨x, hx⟩ : ∃ x, os[k]? = some x := ⟨_, List.getElem?_eq_getElem (by omega)⟩
      have c0 := HC.out k x hx
      have HX := Lib.hid hx
      have HK := Lib.hid (HI.out x)
      clear hx
      by_cases hy : x ∈ es
      · have ha := Lib.hid (HA.out.symm.trans (findE_at HN.out HX.out hy))
        have HY := Lib.hid (show decide (x ∈ es) = true from decide_eq_true hy)
        clear hy
        go_wp2_with fail
        go_at_call 128
        refine HK.out.mono ?_
        rintro e w' ⟨rfl, rfl⟩
        rw [HY.out]
        go_wp2
        go_ret
        exact ⟨by rw [ha.out]; rfl, rfl⟩
      · have HY := Lib.hid (show decide (x ∈ es) = false from decide_eq_false hy)
        clear hy
        go_wp2_with fail
        go_at_call 128
        refine HK.out.mono ?_
        rintro e w' ⟨rfl, rfl⟩
        rw [HY.out]
        go_wp2
        go_round
        case rel =>
          refine ⟨k + 1, by omega, by go_num, fun j y hj hl => ?_⟩
          rcases Nat.lt_or_ge j k with h | h
          · exact HN.out j y h hl
          · obtain rfl : j = k := by omega
            have := HX.out
            rw [hl] at this
            rw [Option.some.inj this]
            exact of_decide_eq_false HY.out
        case measure => simp [intOf]; omega
    · have hlI : ¬ ((k : Int) < (n : Int)) := by omega
      obtain rfl : k = n := by omega
      have ha := Lib.hid (HA.out.symm.trans (findE_no (fun j x hj => HN.out j x (by omega))))
      go_wp2
      go_ret
      exact ⟨by rw [ha.out]; rfl, rfl⟩
end Go.Proofs.YtmmpknfkncgjpaaGreatDoor

namespace Go.Proofs.YtmmpknfkncgjpaaGreatDoor
open Go.RowKit

/-- A block, as a value. -/
@[reducible] def Bk.val (b : Bk) : Value := .agg #[.int .i64 b.id, .int .i64 b.ver, .string b.data]
@[reducible] def Bk.cells (b : Bk) : Array Value := #[.int .i64 b.id, .int .i64 b.ver, .string b.data]
/-- The numbers of what is wrong. -/
def wrongL (b : Bk) (m : Int) : List Int :=
  (if 0 ≤ b.id ∧ b.id ≤ 255 then [] else [1]) ++ (if 1 ≤ b.ver ∧ b.ver ≤ 1099511627776 then [] else [1]) ++ (if 0 ≤ m ∧ m ≤ 1 then [] else [1]) ++ (if b.data.size ≤ 16 then [] else [11])
theorem find_wrong (b : Bk) (m : Int) : findE [1, 11] (wrongL b m) = refE b m := by
  unfold findE wrongL refE argOk
  by_cases h1 : 0 ≤ b.id ∧ b.id ≤ 255 <;> by_cases h2 : 1 ≤ b.ver ∧ b.ver ≤ 1099511627776 <;> by_cases h3 : 0 ≤ m ∧ m ≤ 1 <;> by_cases h4 : b.data.size ≤ 16
  all_goals
    simp only [h1, h2, h3, h4, if_true, if_false]
    simp [List.find?]
    try omega

/-- A block lies in the cells of block z. -/
def BC (w : World) (z : Nat) (b : Bk) : Prop := w.cell? ⟨z, 0, none⟩ = some (.int .i64 b.id) ∧ w.cell? ⟨z, 1, none⟩ = some (.int .i64 b.ver) ∧ w.cell? ⟨z, 2, none⟩ = some (.string b.data)
theorem BC.lt {w : World} {z : Nat} {b : Bk} (h : BC w z b) : z < w.heap.size := cell_lt h.1
theorem BC.below {w w' : World} {z : Nat} {b : Bk} (h : BC w z b) (hb : Below w.heap.size w w') : BC w' z b := by
  have hl := h.lt
  exact ⟨by rw [hb.cell (p := ⟨z, 0, none⟩) hl]; exact h.1, by rw [hb.cell (p := ⟨z, 1, none⟩) hl]; exact h.2.1, by rw [hb.cell (p := ⟨z, 2, none⟩) hl]; exact h.2.2⟩
theorem BC.new (w : World) (b : Bk) (t : TypeId) : BC (w.alloc (.cells b.cells t)) w.heap.size b := ⟨by simp, by simp, by simp⟩

theorem ArgE.below {w w' : World} {d g : Nat} {ps : List (Value × List Int)} (h : ArgE w d g ps) (hb : Below w.heap.size w w') : ArgE w' d g ps :=
  ⟨h.few, fun p hp => (h.es p hp).below hb, fun j p hp => by rw [hb.cell (p := ⟨g, j, none⟩) (cell_lt (h.cell j p hp))]; exact h.cell j p hp⟩
theorem unl_cells (p : Bool) (x : Int) : (unl p x).cells = #[unl p x] := by cases p <;> rfl
theorem unl_es (p : Bool) (x : Int) : ES0 (unl p x) (if p then [] else [x]) := by cases p; (exact .inr ⟨x, rfl, rfl⟩); (exact .inl ⟨rfl, rfl⟩)
/-- Four errors in a row of their own. -/
theorem four_args {w : World} {d : Nat} {v1 v2 v3 v4 : Value} {e1 e2 e3 e4 : List Int} (h1 : ES w d v1 e1) (h2 : ES w d v2 e2) (h3 : ES w d v3 e3) (h4 : ES w d v4 e4) :
    ArgE (w.alloc (.cells #[v1, v2, v3, v4] 93)) d w.heap.size [(v1, e1), (v2, e2), (v3, e3), (v4, e4)] := by
  have hb : Below w.heap.size w (w.alloc (.cells #[v1, v2, v3, v4] 93)) := (Below.refl _ _).alloc (Nat.le_refl _) _
  refine ⟨by simp, fun p hp => ?_, fun j p hp => ?_⟩
  · simp only [List.mem_cons, List.not_mem_nil, or_false] at hp
    rcases hp with rfl | rfl | rfl | rfl
    · exact h1.below hb
    · exact h2.below hb
    · exact h3.below hb
    · exact h4.below hb
  · rcases j with _ | _ | _ | _ | j
    · simp at hp; subst hp; simp
    · simp at hp; subst hp; simp
    · simp at hp; subst hp; simp
    · simp at hp; subst hp; simp
    · simp at hp

theorem run_build4 (v1 v2 v3 v4 : Value) (h1 : v1.cells = #[v1]) (h2 : v2.cells = #[v2]) (h3 : v3.cells = #[v3]) (h4 : v4.cells = #[v4]) (w : World) :
    (Instr.buildSlice 226 4 #[(0, v1), (1, v2), (2, v3), (3, v4)]).run Tryz.prog w = .ok (.slice (some ⟨w.heap.size, 0, none⟩) 4 4) (w.alloc (.cells #[v1, v2, v3, v4] 93)) := by
  obtain ⟨i0, hi0, hz0, hz1, hz2⟩ := info_parts infoErr
  refine run_buildSlice w _ 93 4 _ _ i0 _ Tryz.underlying226 hi0 hz0 (by rw [hz1]; omega) (by rw [hz1]; omega) ?_
  rw [hz1]
  have := Great.fill_whole (s := 1) (by omega) [v1, v2, v3, v4] ((Array.range (4 * 1)).map ((Value.nilIface).cells[· % (Value.nilIface).cells.size]!)) (fun v hv => by
    simp only [List.mem_cons, List.not_mem_nil, or_false] at hv
    rcases hv with rfl | rfl | rfl | rfl
    · rw [h1]; rfl
    · rw [h2]; rfl
    · rw [h3]; rfl
    · rw [h4]; rfl) (by simp)
  simpa [h1, h2, h3, h4] using this
/-- It is a value of one cell. -/
def okE (v : Value) : Prop := v.cells = #[v]
theorem wp_build4 {d : Option Tmp} {x1 x2 x3 x4 : Operand} {ty : TypeId} {pos : String} {after : Array Edge} {g : Option (Nat × Bool)} {a : Act} {w : World} {K : Act → World → Prop} {Q : Exit → Act → World → Prop} (h1 : okE (a.eval x1)) (h2 : okE (a.eval x2)) (h3 : okE (a.eval x3)) (h4 : okE (a.eval x4)) :
    Oper.wp Tryz.prog { dst := d, op := .buildSlice 226 4 #[(0, x1), (1, x2), (2, x3), (3, x4)], type := ty, pos := pos, after := after, guard := g } a w K Q = K (a.put d (.slice (some ⟨w.heap.size, 0, none⟩) 4 4)) (w.alloc (.cells #[a.eval x1, a.eval x2, a.eval x3, a.eval x4] 93)) := by
  have hr := run_build4 _ _ _ _ h1 h2 h3 h4 w
  unfold Oper.wp execOp
  simp only [List.map_toArray, List.map_cons, List.map_nil, Sem.run_bind, Sem.run_pure, Result.andThen_ok, hr]
  rfl
attribute [local go_sem ↓] Go.wp_at_zero Go.wp_at_succ wp_build4
set_option maxRecDepth 100000 in
set_option maxHeartbeats 4000000 in
theorem wrong_any (b : Bk) (m : Int) (w : World) :
    Calls Tryz.prog 130 #[b.val, .int .i64 m] w fun e w' => ∃ v, e = .returned v ∧ ES w' 1 v (wrongL b m) ∧ Below w.heap.size w w' := by
  obtain ⟨p1, hp1⟩ : ∃ p, decide (0 ≤ b.id ∧ b.id ≤ 255) = p := ⟨_, rfl⟩
  obtain ⟨p2, hp2⟩ : ∃ p, decide (1 ≤ b.ver ∧ b.ver ≤ 1099511627776) = p := ⟨_, rfl⟩
  obtain ⟨p3, hp3⟩ : ∃ p, decide (0 ≤ m ∧ m ≤ 1) = p := ⟨_, rfl⟩
  obtain ⟨p4, hp4⟩ : ∃ p, decide ((b.data.size : Int) ≤ 16) = p := ⟨_, rfl⟩
  have hL : wrongL b m = (if p1 then [] else [1]) ++ (if p2 then [] else [1]) ++ (if p3 then [] else [1]) ++ (if p4 then [] else [11]) := by
    rw [← hp1, ← hp2, ← hp3, ← hp4]
    unfold wrongL
    simp only [decide_eq_true_eq]
    by_cases h : b.data.size ≤ 16
    · rw [if_pos h, if_pos (by omega : (b.data.size : Int) ≤ 16)]
    · rw [if_neg h, if_neg (by omega : ¬ (b.data.size : Int) ≤ 16)]
  have K1 := Lib.hid (fun w => hp1 ▸ within_any b.id 0 255 w)
  have K2 := Lib.hid (fun w => hp2 ▸ within_any b.ver 1 1099511627776 w)
  have K3 := Lib.hid (fun w => hp3 ▸ within_any m 0 1 w)
  obtain ⟨v1, hv1⟩ : ∃ v, unl p1 1 = v := ⟨_, rfl⟩
  obtain ⟨v2, hv2⟩ : ∃ v, unl p2 1 = v := ⟨_, rfl⟩
  obtain ⟨v3, hv3⟩ : ∃ v, unl p3 1 = v := ⟨_, rfl⟩
  obtain ⟨v4, hv4⟩ : ∃ v, unl p4 11 = v := ⟨_, rfl⟩
  have U1 := Lib.hid (fun w => hv1 ▸ unless_any p1 1 w)
  have U2 := Lib.hid (fun w => hv2 ▸ unless_any p2 1 w)
  have U3 := Lib.hid (fun w => hv3 ▸ unless_any p3 1 w)
  have U4 := Lib.hid (fun w => hv4 ▸ unless_any p4 11 w)
  have E1 := hv1 ▸ unl_es p1 1
  have E2 := hv2 ▸ unl_es p2 1
  have E3 := hv3 ▸ unl_es p3 1
  have E4 := hv4 ▸ unl_es p4 11
  have C1 : okE v1 := hv1 ▸ unl_cells p1 1
  have C2 : okE v2 := hv2 ▸ unl_cells p2 1
  have C3 : okE v3 := hv3 ▸ unl_cells p3 1
  have C4 : okE v4 := hv4 ▸ unl_cells p4 11
  have hbc := BC.new w b 34
  have hb0 : Below w.heap.size w (w.alloc (.cells b.cells 34)) := (Below.refl _ _).alloc (Nat.le_refl _) _
  have hA := (four_args (w := w.alloc (.cells b.cells 34)) (ES.up E1 0) (ES.up E2 0) (ES.up E3 0) (ES.up E4 0)).below ((Below.refl _ _).drew)
  have hN : (w.alloc (.cells b.cells 34)).heap.size = w.heap.size + 1 := by simp
  rw [hN] at hA
  have HJ := Lib.hid (join_es 0 _ 4 _ 4 _ hA rfl)
  clear hA hN
  have S0 := Lib.hid (show BC (w.alloc (.cells b.cells 34)).drew w.heap.size b from hbc)
  have S1 := Lib.hid (hbc.below (((Below.refl _ _).alloc (Nat.le_refl _) (.cells #[v1, v2, v3, v4] 93)).drew))
  have B1 := Lib.hid ((hb0.alloc hb0.size (.cells #[v1, v2, v3, v4] 93)).drew)
  have HL := Lib.hid hL
  clear hp1 hp2 hp3 hv1 hv2 hv3 hv4 E1 E2 E3 E4 hL hbc hb0
  go_enter Tryz.func130, Tryz.ntmps130
  go_wp2_with fail
  go_region_held3 (fun w' => w'.cell? ⟨w.heap.size, 0, none⟩ = some (.int .i64 b.id) ∧ w'.cell? ⟨w.heap.size, 1, none⟩ = some (.int .i64 b.ver) ∧ w'.cell? ⟨w.heap.size, 2, none⟩ = some (.string b.data))
    (first | exact S0.out | exact S1.out | exact SJ.out | fail)
    (first
      | (go_at_call 152; with_reducible refine (K1.out _).mono ?_; rintro e w' ⟨rfl, rfl⟩)
      | (go_at_call 152; with_reducible refine (K2.out _).mono ?_; rintro e w' ⟨rfl, rfl⟩)
      | (go_at_call 152; with_reducible refine (K3.out _).mono ?_; rintro e w' ⟨rfl, rfl⟩)
      | (go_at_call 131; with_reducible refine (U1.out _).mono ?_; rintro e w' ⟨rfl, rfl⟩)
      | (go_at_call 131; with_reducible refine (U2.out _).mono ?_; rintro e w' ⟨rfl, rfl⟩)
      | (go_at_call 131; with_reducible refine (U3.out _).mono ?_; rintro e w' ⟨rfl, rfl⟩)
      | (go_at_call 131; with_reducible refine (U4.out _).mono ?_; rintro e w' ⟨rfl, rfl⟩)
      | (go_at_call 129; with_reducible refine HJ.out.mono ?_; rintro e wj ⟨v, rfl, k1, k2⟩; have SJ := Lib.hid (S1.out.below k2); have EJ := Lib.hid k1; have BJ := Lib.hid (B1.out.trans (k2.mono B1.out.size)); clear k1 k2)
      | fail)
  go_wp2
  go_ret
  refine ⟨_, rfl, ?_, BJ.out⟩
  rw [HL.out]
  simpa [List.flatMap_cons] using EJ.out
end Go.Proofs.YtmmpknfkncgjpaaGreatDoor

namespace Go.Proofs.YtmmpknfkncgjpaaGreatDoor
open Go.RowKit

theorem bk_same (m : Bk) (w : World) : (binOp .eql 34 m.val m.val).run Tryz.prog w = .ok (.bool true) w := by
  have hg : Tryz.prog.stoodInHeld 34 = false := by kernel_rfl
  have hf : Tryz.prog.underlying 34 = some (.struct (Tryz.prog.fieldsOf 34)) := by kernel_rfl
  rw [run_eql_struct, run_equalIn_struct w 9999 34 _ _ hf hg]
  simp [go_sem, Tryz.underlying34, Tryz.underlying3, Tryz.underlying9]
theorem bk_other (m n : Bk) (w : World) (h : m ≠ n) : (binOp .eql 34 m.val n.val).run Tryz.prog w = .ok (.bool false) w := by
  have hg : Tryz.prog.stoodInHeld 34 = false := by kernel_rfl
  have hf : Tryz.prog.underlying 34 = some (.struct (Tryz.prog.fieldsOf 34)) := by kernel_rfl
  rw [run_eql_struct, run_equalIn_struct w 9999 34 _ _ hf hg]
  obtain ⟨a0, a1, a2⟩ := m
  obtain ⟨b0, b1, b2⟩ := n
  by_cases h0 : a0 = b0
  case neg => simp [go_sem, Tryz.underlying34, Tryz.underlying3, Tryz.underlying9, h0]
  by_cases h1 : a1 = b1
  case neg => simp [go_sem, Tryz.underlying34, Tryz.underlying3, Tryz.underlying9, h0, h1]
  have h7 : (a2.toList == b2.toList) = false := str_ne (fun e => h (by rw [h0, h1, e]))
  simp [go_sem, Tryz.underlying34, Tryz.underlying3, Tryz.underlying9, h0, h1, h7]
theorem bk_eq (m n : Bk) (w : World) : (binOp .eql 34 m.val n.val).run Tryz.prog w = .ok (.bool (decide (m = n))) w := by
  by_cases h : m = n
  · subst h; rw [decide_eq_true rfl]; exact bk_same m w
  · rw [decide_eq_false h]; exact bk_other m n w h
theorem bk_neq (m n : Bk) (w : World) : (binOp .neq 34 m.val n.val).run Tryz.prog w = .ok (.bool (!decide (m = n))) w := by
  have h1 := bk_eq m n w
  rw [run_eql_struct] at h1
  rw [run_neq_struct]
  revert h1
  generalize Sem.run Tryz.prog (Op.equalIn 10000 34 _ _) w = r
  intro h1
  cases r <;> simp_all [Result.andThen]
end Go.Proofs.YtmmpknfkncgjpaaGreatDoor
