/-
  errors.Is, find, wrong (package shelf), by contracts; Join of errors that are joined themselves.
-/
import Derived.Test.YtacdbfaoeioflaaGreatDoorBytes9
namespace Go.Proofs.YtacdbfaoeioflaaGreatDoor
open Go.RowKit Go.Extern.Stop Go.Stop Go.Extern

theorem ES0.form {v : Value} {es : List Int} (h : ES0 v es) : (v = .nilIface ∧ es = []) ∨ ∃ x, v = errV x ∧ es = [x] := h
theorem ES.form {w : World} {d : Nat} {v : Value} {es : List Int} (h : ES w d v es) : (v = .nilIface ∧ es = []) ∨ (∃ x, v = errV x) ∨ ∃ b, v = joinV b := by
  cases d with
  | zero => rcases h with h | ⟨x, h, _⟩; (exact .inl h); (exact .inr (.inl ⟨x, h⟩))
  | succ d =>
    rcases h with (h | ⟨x, h, _⟩) | ⟨b, _, _, h, _⟩
    · exact .inl h
    · exact .inr (.inl ⟨x, h⟩)
    · exact .inr (.inr ⟨b, h⟩)
theorem ES.up {w : World} {v : Value} {es : List Int} (h : ES0 v es) : ∀ d, ES w d v es
  | 0 => h
  | _ + 1 => .inl h
theorem ES.ev {w : World} {d : Nat} {v : Value} {es : List Int} (h : ES w d v es) : EV v := by
  rcases h.form with ⟨h, _⟩ | h | h
  · exact .inl h
  · exact .inr (.inl h)
  · exact .inr (.inr h)

theorem eqNE (y : Int) (w : World) : (binOp .eql 91 .nilIface (errV y)).run Tryz.prog w = .ok (.bool false) w := by kernel_rfl
set_option maxRecDepth 100000 in
set_option maxHeartbeats 2000000 in
theorem eis_any (d : Nat) (v : Value) (es : List Int) (y : Int) (w : World) (h : ES w d v es) :
    Calls Tryz.prog 76 #[v, errV y] w fun e w' => e = .returned (.bool (decide (y ∈ es))) ∧ w = w' := by
  have h10 := @run_callFunc_extern Tryz.prog 94 _ ReflectliteType.typeOf Tryz.func94 (by kernel_rfl) (by kernel_rfl) (by kernel_rfl) (by kernel_rfl)
  have h97 := @run_callFunc_extern Tryz.prog 156 _ (ReflectliteType.method fun t => do Rtype.noPackHeld "Comparable" t; pure (.bool (← typeInfo t).comparable)) Tryz.func156 (by kernel_rfl) (by kernel_rfl) (by kernel_rfl) (by kernel_rfl)
  have tT := typeOfE
  have cT := comparableE
  have HF := h.form
  have HI := Lib.hid (fun hn => is_any d v es y w hn h)
  obtain ⟨p, hp⟩ : ∃ p, decide (y ∈ es) = p := ⟨_, rfl⟩
  rw [hp] at HI ⊢
  have HP := Lib.hid hp
  clear h hp
  rcases HF with ⟨rfl, rfl⟩ | ⟨x, rfl⟩ | ⟨b, rfl⟩
  · obtain rfl : p = false := by rw [← HP.out]; simp
    have hne := eqNE y w
    go_enter Tryz.func76, Tryz.ntmps76
    go_wp2
    go_ret
    exact ⟨rfl, rfl⟩
  all_goals
    go_enter Tryz.func76, Tryz.ntmps76
    go_wp2_with fail
    go_at_call 95
    refine (HI.out rfl).mono ?_
    rintro e w' ⟨rfl, rfl⟩
    go_wp2
    go_ret
    exact ⟨rfl, rfl⟩

/-- Several errors, with the numbers of each. -/
structure ArgE (w : World) (d g : Nat) (ps : List (Value × List Int)) : Prop where
  few : ps.length ≤ 100
  es : ∀ p ∈ ps, ES w d p.1 p.2
  cell : ∀ (j : Nat) (p : Value × List Int), ps[j]? = some p → w.cell? ⟨g, j, none⟩ = some p.1
theorem es_nil {w : World} {d : Nat} {v : Value} {es : List Int} (h : ES w d v es) (hn : notN v = false) : es = [] := by
  rcases h.form with ⟨_, h⟩ | ⟨x, rfl⟩ | ⟨b, rfl⟩
  · exact h
  · cases hn
  · cases hn
theorem kept_pairs (ps : List (Value × List Int)) : kept (ps.map (·.1)) = (ps.filter fun p => notN p.1).map (·.1) := by
  unfold kept; rw [List.filter_map]; rfl
theorem flat_pairs {w : World} {d : Nat} {ps : List (Value × List Int)} (h : ∀ p ∈ ps, ES w d p.1 p.2) : ((ps.filter fun p => notN p.1).map (·.2)).flatten = ps.flatMap (·.2) := by
  induction ps with
  | nil => rfl
  | cons p ps ih =>
    have ih' := ih fun q hq => h q (by simp [hq])
    rw [List.flatMap_cons, List.filter_cons]
    cases hn : notN p.1
    · rw [es_nil (h p (by simp)) hn]
      simpa using ih'
    · simp only [if_true, List.map_cons, List.flatten_cons, ih']
theorem join_es (d g c : Nat) (ps : List (Value × List Int)) (n : Nat) (w : World) (hA : ArgE w d g ps) (hn : ps.length = n) :
    Calls Tryz.prog 77 #[.slice (some ⟨g, 0, none⟩) n c] w fun e w' => ∃ v, e = .returned v ∧ ES w' (d + 1) v (ps.flatMap (·.2)) ∧ Below w.heap.size w w' := by
  have hA' : Args w g n (ps.map (·.1)) := ⟨by rw [List.length_map]; exact hn, by rw [← hn]; exact hA.few, fun v hv => by
    obtain ⟨p, hp, rfl⟩ := List.mem_map.1 hv
    exact (hA.es p hp).ev, fun j v hv => by
    rw [List.getElem?_map] at hv
    obtain ⟨p, hp, rfl⟩ := Option.map_eq_some_iff.1 hv
    exact hA.cell j p hp⟩
  refine (join_any g n c _ w hA').mono ?_
  rintro e w' ⟨h, hb⟩
  have hfl := flat_pairs hA.es
  rw [kept_pairs] at h
  rcases h with ⟨h0, rfl⟩ | ⟨b, rfl, hJ⟩
  · refine ⟨_, rfl, .inl (.inl ⟨rfl, ?_⟩), hb⟩
    rw [← hfl, List.map_eq_nil_iff.1 h0]; rfl
  · refine ⟨_, rfl, .inr ⟨b, _, (ps.filter fun p => notN p.1).map (·.2), rfl, hJ, by simp, ?_, fun j u hu => ?_, hfl.symm⟩, hb⟩
    · rw [List.length_map]; exact Nat.le_trans (List.length_filter_le _ _) hA.few
    · rw [List.getElem?_map] at hu
      obtain ⟨p, hp, rfl⟩ := Option.map_eq_some_iff.1 hu
      have hm := List.mem_filter.1 (List.mem_of_getElem? hp)
      exact ⟨hm.2, p.2, by rw [List.getElem?_map, hp]; rfl, (hA.es p hm.1).below hb⟩

/-- The first of these numbers that is among them. -/
def findE (os es : List Int) : Int := (os.find? fun o => decide (o ∈ es)).getD 0
theorem findE_at {os es : List Int} {k : Nat} {o : Int} (h0 : ∀ j x, j < k → os[j]? = some x → x ∉ es) (hk : os[k]? = some o) (ho : o ∈ es) : findE os es = o := by
  have hkl : k < os.length := (List.getElem?_eq_some_iff.1 hk).1
  have : os.find? (fun o => decide (o ∈ es)) = some o := by
    rw [List.find?_eq_some_iff_getElem]
    refine ⟨by simpa using ho, k, hkl, (List.getElem?_eq_some_iff.1 hk).2, fun j hj => ?_⟩
    have := h0 j os[j] hj (List.getElem?_eq_getElem (by omega))
    simpa using this
  unfold findE; rw [this]; rfl
theorem findE_no {os es : List Int} (h0 : ∀ (j : Nat) x, j < os.length → os[j]? = some x → x ∉ es) : findE os es = 0 := by
  have : os.find? (fun o => decide (o ∈ es)) = none := List.find?_eq_none.2 fun x hx => by
    obtain ⟨j, hj⟩ := List.getElem?_of_mem hx
    simpa using h0 j x (List.getElem?_eq_some_iff.1 hj).1 hj
  unfold findE; rw [this]; rfl

set_option maxRecDepth 100000 in
set_option maxHeartbeats 2000000 in
theorem find_any (d g n c : Nat) (v : Value) (es os : List Int) (w : World) (h : ES w d v es) (hn : os.length = n) (hn1 : n ≤ 100) (hc : ∀ (j : Nat) x, os[j]? = some x → w.cell? ⟨g, j, none⟩ = some (.int .i64 x)) :
    Calls Tryz.prog 47 #[v, .slice (some ⟨g, 0, none⟩) n c] w fun e w' => e = .returned (.int .i64 (findE os es)) ∧ w = w' := by
  obtain ⟨ans, hans⟩ : ∃ ans, findE os es = ans := ⟨_, rfl⟩
  rw [hans]
  have HA := Lib.hid hans
  have HI := Lib.hid (fun y => eis_any d v es y w h)
  have HC := Lib.hid hc
  clear h hc hans
  go_enter Tryz.func47, Tryz.ntmps47
  go_wp2
  go_loop [9] (fun iv => ∃ k : Nat, k ≤ n ∧ iv = .int .i64 k ∧ ∀ j x, j < k → os[j]? = some x → x ∉ es) (fun iv => n - (intOf iv).toNat)
  case atStart => exact ⟨0, Nat.zero_le _, rfl, fun j x hj => by omega⟩
  case round =>
    obtain ⟨k, hk, rfl, hno⟩ := hrel
    have HN := Lib.hid hno
    clear hno
    by_cases hlt : k < n
    · have hlI : (k : Int) < (n : Int) := by omega
      have hkI : (0 : Int) ≤ (k : Int) := by omega
      obtain ⟨x, hx⟩ : ∃ x, os[k]? = some x := ⟨_, List.getElem?_eq_getElem (by omega)⟩
      have c0 := HC.out k x hx
      have HX := Lib.hid hx
      have HK := Lib.hid (HI.out x)
      clear hx
      by_cases hy : x ∈ es
      · have ha := Lib.hid (HA.out.symm.trans (findE_at HN.out HX.out hy))
        have HY := Lib.hid (show decide (x ∈ es) = true from decide_eq_true hy)
        clear hy
        go_wp2_with fail
        go_at_call 76
        refine HK.out.mono ?_
        rintro e w' ⟨rfl, rfl⟩
        rw [HY.out]
        go_wp2
        go_ret
        exact ⟨by rw [ha.out]; rfl, rfl⟩
      · have HY := Lib.hid (show decide (x ∈ es) = false from decide_eq_false hy)
        clear hy
        go_wp2_with fail
        go_at_call 76
        refine HK.out.mono ?_
        rintro e w' ⟨rfl, rfl⟩
        rw [HY.out]
        go_wp2
        go_round
        case rel =>
          refine ⟨k + 1, by omega, by go_num, fun j y hj hl => ?_⟩
          rcases Nat.lt_or_ge j k with h | h
          · exact HN.out j y h hl
          · obtain rfl : j = k := by omega
            have := HX.out
            rw [hl] at this
            rw [Option.some.inj this]
            exact of_decide_eq_false HY.out
        case measure => simp [intOf]; omega
    · have hlI : ¬ ((k : Int) < (n : Int)) := by omega
      obtain rfl : k = n := by omega
      have ha := Lib.hid (HA.out.symm.trans (findE_no (fun j x hj => HN.out j x (by omega))))
      go_wp2
      go_ret
      exact ⟨by rw [ha.out]; rfl, rfl⟩
end Go.Proofs.YtacdbfaoeioflaaGreatDoor
