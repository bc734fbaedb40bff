/-
  errors.Is at joined errors, by a contract (Go's own text is walked): it finds each number that was joined; find.
-/
import Derived.Test.YtacdbfaoeioflaaDoorJoin
namespace Go.Proofs.YtacdbfaoeioflaaDoor
open Go.RowKit Go.Extern.Stop Go.Stop Go.Extern

theorem typeOfE (v : Value) (w : World) : (ReflectliteType.typeOf #[.iface 24 v]).run Tryd.prog w = .ok (.iface 128 (.agg #[.pointer (some ⟨2, 24, none⟩)])) w := by kernel_rfl
theorem comparableE (w : World) : ((ReflectliteType.method fun t => do Rtype.noPackHeld "Comparable" t; Functor.map (fun a : TypeInfo => Value.bool a.comparable) (typeInfo t)) #[.agg #[.pointer (some ⟨2, 24, none⟩)]]).run Tryd.prog w = .ok (.bool true) w := by kernel_rfl
theorem comparE : (Tryd.prog.info? 24).map (·.comparable) = some true := by kernel_rfl
theorem noIsE (v : Value) (xT : TypeId) (w : World) : (Instr.typeAssert (.iface 24 v) xT 130 true).run Tryd.prog w = .ok (.tuple #[.nilIface, .bool false]) w := run_typeAssert_lacksB Tryd.underlying130 (by kernel_rfl) (by kernel_rfl) v xT w
theorem noUnwrapE (v : Value) (xT : TypeId) (w : World) : (Instr.typeAssert (.iface 24 v) xT 133 true).run Tryd.prog w = .ok (.tuple #[.nilIface, .bool false]) w := run_typeAssert_lacksB Tryd.underlying133 (by kernel_rfl) (by kernel_rfl) v xT w
theorem noUnwrapsE (v : Value) (xT : TypeId) (w : World) : (Instr.typeAssert (.iface 24 v) xT 135 true).run Tryd.prog w = .ok (.tuple #[.nilIface, .bool false]) w := run_typeAssert_lacksB Tryd.underlying135 (by kernel_rfl) (by kernel_rfl) v xT w
theorem noIsJ (v : Value) (xT : TypeId) (w : World) : (Instr.typeAssert (.iface 112 v) xT 130 true).run Tryd.prog w = .ok (.tuple #[.nilIface, .bool false]) w := run_typeAssert_lacksB Tryd.underlying130 (by kernel_rfl) (by kernel_rfl) v xT w
theorem noUnwrapJ (v : Value) (xT : TypeId) (w : World) : (Instr.typeAssert (.iface 112 v) xT 133 true).run Tryd.prog w = .ok (.tuple #[.nilIface, .bool false]) w := run_typeAssert_lacksB Tryd.underlying133 (by kernel_rfl) (by kernel_rfl) v xT w
theorem hasUnwrapsJ (v : Value) (xT : TypeId) (w : World) : (Instr.typeAssert (.iface 112 v) xT 135 true).run Tryd.prog w = .ok (.tuple #[.iface 112 v, .bool true]) w := run_typeAssert_hasB Tryd.underlying135 (by kernel_rfl) v xT w
theorem eqJE (b : Nat) (y : Int) (w : World) : (binOp .eql 35 (joinV b) (errV y)).run Tryd.prog w = .ok (.bool false) w := by kernel_rfl

/-- The error v is nothing, or a number. -/
def ES0 (v : Value) (es : List Int) : Prop := (v = .nilIface ∧ es = []) ∨ ∃ x, v = errV x ∧ es = [x]
/-- The error v has the numbers es. -/
def ES (w : World) : Nat → Value → List Int → Prop
  | 0, v, es => ES0 v es
  | d + 1, v, es => ES0 v es ∨ ∃ (b : Nat) (us : List Value) (ess : List (List Int)), v = joinV b ∧ Jn w b us ∧ us.length = ess.length ∧ us.length ≤ 100 ∧ (∀ (j : Nat) (u : Value), us[j]? = some u → notN u = true ∧ ∃ es', ess[j]? = some es' ∧ ES w d u es') ∧ es = ess.flatten
theorem ES.below {w w' : World} (hb : Below w.heap.size w w') : ∀ {d : Nat} {v : Value} {es : List Int}, ES w d v es → ES w' d v es
  | 0, _, _, h => h
  | d + 1, _, _, h => by
    rcases h with h | ⟨b, us, ess, h1, h2, h3, h4, h5, h6⟩
    · exact .inl h
    · exact .inr ⟨b, us, ess, h1, h2.below hb, h3, h4, fun j u hu => ⟨(h5 j u hu).1, by obtain ⟨es', k1, k2⟩ := (h5 j u hu).2; exact ⟨es', k1, ES.below hb k2⟩⟩, h6⟩

set_option maxRecDepth 100000 in
set_option maxHeartbeats 2000000 in
theorem is_num (x y : Int) (w : World) :
    Calls Tryd.prog 50 #[errV x, errV y, .bool true] w fun e w' => e = .returned (.bool (x == y)) ∧ w = w' := by
  have nE := noIsE
  have uE := noUnwrapE
  have vE := noUnwrapsE
  have heq := Lib.run_eql_iface_int (P := Tryd.prog) (t := 35) (tx := 24) (k := .i64) w x y Tryd.underlying35 comparE Tryd.underlying24
  by_cases hxy : (x == y) = true
  · rw [hxy] at heq ⊢
    go_enter Tryd.func50, Tryd.ntmps50
    go_wp2
    refine wp_loop_rounds 1 ?_
    rw [rounds_succ]
    go_wp2
    go_ret
    exact ⟨rfl, rfl⟩
  · have hxy' : (x == y) = false := by simpa using hxy
    rw [hxy'] at heq ⊢
    clear hxy hxy'
    go_enter Tryd.func50, Tryd.ntmps50
    go_wp2
    refine wp_loop_rounds 1 ?_
    rw [rounds_succ]
    go_wp2
    go_ret
    exact ⟨rfl, rfl⟩
theorem unwrap_any (b : Nat) (sv : Value) (w : World) (h : w.cell? ⟨b, 0, none⟩ = some sv) :
    Calls Tryd.prog 97 #[.pointer (some ⟨b, 0, none⟩)] w fun e w' => e = .returned sv ∧ w = w' := by
  go_enter Tryd.func97, Tryd.ntmps97
  go_wp2
  go_ret
  exact ⟨rfl, rfl⟩

set_option maxRecDepth 100000 in
set_option maxHeartbeats 2000000 in
theorem is_any : ∀ (d : Nat) (v : Value) (es : List Int) (y : Int) (w : World), notN v = true → ES w d v es →
    Calls Tryd.prog 50 #[v, errV y, .bool true] w fun e w' => e = .returned (.bool (decide (y ∈ es))) ∧ w = w' := by
  have base : ∀ (v : Value) (es : List Int) (y : Int) (w : World), notN v = true → ES0 v es → Calls Tryd.prog 50 #[v, errV y, .bool true] w fun e w' => e = .returned (.bool (decide (y ∈ es))) ∧ w = w' := by
    intro v es y w hn hE
    rcases hE with ⟨rfl, _⟩ | ⟨x, rfl, rfl⟩
    · cases hn
    · refine (is_num x y w).mono fun e w' ⟨he, hw⟩ => ⟨?_, hw⟩
      rw [he]
      congr 2
      by_cases hxy : x = y
      · subst hxy; simp
      · have : ¬ y = x := fun e => hxy e.symm
        simp [hxy, this]
  intro d
  induction d with
  | zero => exact base
  | succ d ih =>
    intro v es y w hn hE
    rcases hE with hE | ⟨b, us, ess, rfl, hJ, hlen, h100, hU, rfl⟩
    · exact base v es y w hn hE
    · have iJ := noIsJ
      have uJ := noUnwrapJ
      have vJ := hasUnwrapsJ
      have eJ := eqJE b y
      obtain ⟨sv, c0, -, hown, -⟩ := hJ
      have HU := Lib.hid hU
      have HI := Lib.hid ih
      obtain ⟨ans, hans⟩ : ∃ ans, decide (y ∈ ess.flatten) = ans := ⟨_, rfl⟩
      rw [hans]
      have HA := Lib.hid hans
      have HW := Lib.hid (unwrap_any b sv w c0)
      obtain ⟨A, c, rfl, hcs⟩ : ∃ A c, sv = .slice A us.length c ∧ ∀ j u, us[j]? = some u → ∃ g, A = some ⟨g, 0, none⟩ ∧ w.cell? ⟨g, j, none⟩ = some u := by
        rcases owns_form (f := fun x : Value => [x]) (l := us) (by simpa using hown) (fun _ _ => rfl) with ⟨hv, h0⟩ | ⟨g, cap, hv, -, -, -, hat⟩
        · exact ⟨none, 0, by rw [hv, h0]; rfl, fun j u hu => by rw [h0] at hu; simp at hu⟩
        · exact ⟨_, cap, hv, fun j u hu => ⟨g, rfl, by have := hat j u hu 0 _ rfl; simpa using this⟩⟩
      have HC := Lib.hid hcs
      clear hU ih hans c0 hown hcs base
      go_enter Tryd.func50, Tryd.ntmps50
      go_wp2
      refine wp_loop_rounds 1 ?_
      rw [rounds_succ]
      go_wp2_with fail
      go_at_call 97
      refine HW.out.mono ?_
      rintro e w' ⟨rfl, rfl⟩
      go_wp2
      go_loop [45] (fun iv => ∃ k : Nat, k ≤ us.length ∧ iv = .int .i64 k ∧ ∀ j l, j < k → ess[j]? = some l → y ∉ l) (fun iv => us.length - (intOf iv).toNat)
      case atStart => exact ⟨0, Nat.zero_le _, rfl, fun j l hj => by omega⟩
      case round =>
        obtain ⟨k, hk, rfl, hno⟩ := hrel
        have HN := Lib.hid hno
        clear hno
        by_cases hlt : k < us.length
        · have hlI : (k : Int) < (us.length : Int) := by omega
          have hkI : (0 : Int) ≤ (k : Int) := by omega
          obtain ⟨u, hu⟩ : ∃ u, us[k]? = some u := ⟨_, List.getElem?_eq_getElem (by omega)⟩
          obtain ⟨hun, es', hes, hE⟩ := HU.out k u hu
          obtain ⟨g, rfl, hc⟩ := HC.out k u hu
          have HK := Lib.hid (HI.out u es' y w hun hE)
          clear hE hun hu
          by_cases hy : y ∈ es'
          · have ha : ans = true := by rw [← HA.out]; simpa using ⟨es', List.mem_of_getElem? hes, hy⟩
            have HY := Lib.hid (show decide (y ∈ es') = true from decide_eq_true hy)
            have HA2 := Lib.hid ha
            clear hy hes ha
            go_wp2_with fail
            go_at_call 50
            refine HK.out.mono ?_
            rintro e w' ⟨rfl, rfl⟩
            rw [HY.out]
            go_wp2
            go_ret
            exact ⟨by rw [HA2.out]; rfl, rfl⟩
          · have HY := Lib.hid (show decide (y ∈ es') = false from decide_eq_false hy)
            have HS := Lib.hid hes
            clear hy hes
            go_wp2_with fail
            go_at_call 50
            refine HK.out.mono ?_
            rintro e w' ⟨rfl, rfl⟩
            rw [HY.out]
            go_wp2
            go_round
            case rel =>
              refine ⟨k + 1, by omega, by go_num, fun j l hj hl => ?_⟩
              rcases Nat.lt_or_ge j k with h | h
              · exact HN.out j l h hl
              · obtain rfl : j = k := by omega
                have := HS.out
                rw [hl] at this
                rw [Option.some.inj this]
                exact of_decide_eq_false HY.out
            case measure => simp [intOf]; omega
        · have hlI : ¬ ((k : Int) < (us.length : Int)) := by omega
          obtain rfl : k = us.length := by omega
          have ha : ans = false := by
            rw [← HA.out]
            apply decide_eq_false
            intro hm
            obtain ⟨l, hl, hy⟩ := List.mem_flatten.1 hm
            obtain ⟨j, hj⟩ := List.getElem?_of_mem hl
            exact HN.out j l (by rw [hlen]; exact (List.getElem?_eq_some_iff.1 hj).1) hj hy
          have HA2 := Lib.hid ha
          clear ha
          go_wp2
          go_ret
          exact ⟨by rw [HA2.out]; rfl, rfl⟩
end Go.Proofs.YtacdbfaoeioflaaDoor
