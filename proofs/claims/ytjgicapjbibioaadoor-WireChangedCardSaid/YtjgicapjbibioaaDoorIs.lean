/-
  errors.Is at two numbers (api.Errno), and field.Is, by contracts (Go's own text of errors.Is is walked).
-/
import Derived.Test.YtjgicapjbibioaaDoorChain
import Derived.Test.YtjgicapjbibioaaDoorEnc
import Derived.Lib.IfaceEq
namespace Go.Proofs.YtjgicapjbibioaaDoor
open Go.RowKit Go.Extern.Stop Go.Stop Go.Extern

theorem typeOfE (v : Value) (w : World) : (ReflectliteType.typeOf #[.iface 28 v]).run Tryd.prog w = .ok (.iface 133 (.agg #[.pointer (some ⟨2, 28, none⟩)])) w := by kernel_rfl
theorem comparableE (w : World) : ((ReflectliteType.method fun t => do Rtype.noPackHeld "Comparable" t; Functor.map (fun a : TypeInfo => Value.bool a.comparable) (typeInfo t)) #[.agg #[.pointer (some ⟨2, 28, none⟩)]]).run Tryd.prog w = .ok (.bool true) w := by kernel_rfl
theorem comparE : (Tryd.prog.info? 28).map (·.comparable) = some true := by kernel_rfl
theorem noIsE (v : Value) (xT : TypeId) (w : World) : (Instr.typeAssert (.iface 28 v) xT 135 true).run Tryd.prog w = .ok (.tuple #[.nilIface, .bool false]) w := run_typeAssert_lacksB Tryd.underlying135 (by kernel_rfl) (by kernel_rfl) v xT w
theorem noUnwrapE (v : Value) (xT : TypeId) (w : World) : (Instr.typeAssert (.iface 28 v) xT 127 true).run Tryd.prog w = .ok (.tuple #[.nilIface, .bool false]) w := run_typeAssert_lacksB Tryd.underlying127 (by kernel_rfl) (by kernel_rfl) v xT w
theorem noUnwrapsE (v : Value) (xT : TypeId) (w : World) : (Instr.typeAssert (.iface 28 v) xT 124 true).run Tryd.prog w = .ok (.tuple #[.nilIface, .bool false]) w := run_typeAssert_lacksB Tryd.underlying124 (by kernel_rfl) (by kernel_rfl) v xT w

set_option maxRecDepth 100000 in
set_option maxHeartbeats 2000000 in
theorem is_number (x y : Int) (w : World) :
    Calls Tryd.prog 40 #[.iface 28 (.int .i64 x), .iface 28 (.int .i64 y)] w fun e w' => e = .returned (.bool (x == y)) ∧ w' = w := by
  have h10 := @run_callFunc_extern Tryd.prog 59 _ ReflectliteType.typeOf Tryd.func59 (by kernel_rfl) (by kernel_rfl) (by kernel_rfl) (by kernel_rfl)
  have h97 := @run_callFunc_extern Tryd.prog 97 _ (ReflectliteType.method fun t => do Rtype.noPackHeld "Comparable" t; pure (.bool (← typeInfo t).comparable)) Tryd.func97 (by kernel_rfl) (by kernel_rfl) (by kernel_rfl) (by kernel_rfl)
  have tT := typeOfE
  have cT := comparableE
  have nE := noIsE
  have uE := noUnwrapE
  have vE := noUnwrapsE
  have heq := Lib.run_eql_iface_int (P := Tryd.prog) (t := 25) (tx := 28) (k := .i64) w x y Tryd.underlying25 comparE Tryd.underlying28
  by_cases hxy : (x == y) = true
  · rw [hxy] at heq ⊢
    go_enter Tryd.func40, Tryd.ntmps40
    go_wp2
    refine wp_loop_rounds 1 ?_
    rw [rounds_succ]
    go_wp2
    go_ret
    exact ⟨rfl, rfl⟩
  · have hxy' : (x == y) = false := by simpa using hxy
    rw [hxy'] at heq ⊢
    clear hxy hxy'
    go_enter Tryd.func40, Tryd.ntmps40
    go_wp2
    refine wp_loop_rounds 1 ?_
    rw [rounds_succ]
    go_wp2
    go_ret
    exact ⟨rfl, rfl⟩

set_option maxRecDepth 100000 in
theorem is_clo (x y : Int) (b : Nat) (w : World) (hb : w.cell? ⟨b, 0, none⟩ = some (.int .i64 y)) :
    Calls Tryd.prog 39 #[.int .i64 x, .pointer (some ⟨b, 0, none⟩)] w fun e w' => e = .returned (.bool (x == y)) ∧ w' = w := by
  go_enter Tryd.func39, Tryd.ntmps39
  go_wp2_with fail
  go_at_call 40
  refine (is_number x y w).mono ?_
  rintro e w' ⟨rfl, rfl⟩
  generalize hq : (x == y) = q
  have HQ := Lib.hid hq
  clear hq
  go_wp2
  go_ret
  exact ⟨by rw [HQ.out]; rfl, rfl⟩

set_option maxRecDepth 100000 in
set_option maxHeartbeats 2000000 in
theorem index_one (x y : Int) (g c b : Nat) (w : World) (hg : w.cell? ⟨g, 0, none⟩ = some (.int .i64 x)) (hb : w.cell? ⟨b, 0, none⟩ = some (.int .i64 y)) :
    Calls Tryd.prog 58 #[.slice (some ⟨g, 0, none⟩) 1 c, .func (.func 39) #[] #[.pointer (some ⟨b, 0, none⟩)]] w fun e w' => e = .returned (.int .i64 (if (x == y) = true then 0 else -1)) ∧ w' = w := by
  by_cases hxy : (x == y) = true
  · have HI := Lib.hid (is_clo x y b w hb)
    rw [if_pos hxy]
    go_enter Tryd.func58, Tryd.ntmps58
    go_wp2
    refine wp_loop_rounds 1 ?_
    rw [rounds_succ]
    go_wp2_with fail
    go_at_call 39
    refine HI.out.mono ?_
    rintro e w' ⟨rfl, rfl⟩
    rw [hxy]
    go_wp2
    go_ret
    exact ⟨rfl, rfl⟩
  · have HI := Lib.hid (is_clo x y b w hb)
    have hxy' : (x == y) = false := by simpa using hxy
    rw [if_neg hxy]
    go_enter Tryd.func58, Tryd.ntmps58
    go_wp2
    refine wp_loop_rounds 2 ?_
    rw [rounds_succ]
    go_wp2_with fail
    go_at_call 39
    refine HI.out.mono ?_
    rintro e w' ⟨rfl, rfl⟩
    rw [hxy']
    clear hxy hxy'
    go_wp2
    rw [rounds_succ]
    go_wp2
    go_ret
    exact ⟨rfl, rfl⟩

set_option maxRecDepth 100000 in
set_option maxHeartbeats 2000000 in
theorem contains_one (x y : Int) (g c b : Nat) (w : World) (hg : w.cell? ⟨g, 0, none⟩ = some (.int .i64 x)) (hb : w.cell? ⟨b, 0, none⟩ = some (.int .i64 y)) :
    Calls Tryd.prog 38 #[.slice (some ⟨g, 0, none⟩) 1 c, .func (.func 39) #[] #[.pointer (some ⟨b, 0, none⟩)]] w fun e w' => e = .returned (.bool (x == y)) ∧ w' = w := by
  have HI := Lib.hid (index_one x y g c b w hg hb)
  by_cases hxy : (x == y) = true
  · rw [if_pos hxy] at HI
    rw [hxy]
    go_enter Tryd.func38, Tryd.ntmps38
    go_wp2_with fail
    go_at_call 58
    refine HI.out.mono ?_
    rintro e w' ⟨rfl, rfl⟩
    go_wp2
    go_ret
    exact ⟨rfl, rfl⟩
  · rw [if_neg hxy] at HI
    have hxy' : (x == y) = false := by simpa using hxy
    rw [hxy']
    clear hxy hxy'
    go_enter Tryd.func38, Tryd.ntmps38
    go_wp2_with fail
    go_at_call 58
    refine HI.out.mono ?_
    rintro e w' ⟨rfl, rfl⟩
    go_wp2
    go_ret
    exact ⟨rfl, rfl⟩

set_option maxRecDepth 100000 in
set_option maxHeartbeats 2000000 in
/-- Is of an error of one number. -/
theorem fieldIs_one (v : Value) (x y : Int) (w : World) (hg : ErrType w) (hc : Chained w v [x]) (hy : y ≠ 0) :
    Calls Tryd.prog 15 #[v, .int .i64 y] w fun e w' => e = .returned (.bool (x == y)) ∧ Below w.heap.size w w' := by
  have hb0 : Below w.heap.size w (w.alloc (.cells #[.int .i64 y] 28)) := (Below.refl _ _).alloc (Nat.le_refl _) _
  have HB0 := Lib.hid hb0
  have HC := Lib.hid (chain_any v [x] _ (hg.below hb0) (hc.below hb0) (by simp))
  have HK := Lib.hid (show (w.alloc (.cells #[.int .i64 y] 28)).cell? ⟨w.heap.size, 0, none⟩ = some (.int .i64 y) by simp)
  have HL := Lib.hid (show w.heap.size < (w.alloc (.cells #[.int .i64 y] 28)).heap.size by simp)
  have hy2 : (y == 0) = false := by simpa using hy
  have hy3 : (y != 0) = true := by simpa using hy
  clear hb0 hg hc hy
  go_enter Tryd.func15, Tryd.ntmps15
  go_wp2_with fail
  go_at_call 11
  refine HC.out.mono ?_
  rintro e w1 ⟨s1, rfl, hown, hb1⟩
  have HB1 := Lib.hid (HB0.out.trans (hb1.mono HB0.out.size))
  have hk1 : w1.cell? ⟨w.heap.size, 0, none⟩ = some (.int .i64 y) := by rw [hb1.cell (p := ⟨w.heap.size, 0, none⟩) HL.out]; exact HK.out
  rcases owned_form hown with ⟨_, h, _⟩ | ⟨g, cap, rfl, hcell⟩
  · simp at h
  · have hc0 := hcell 0 (.int .i64 x) rfl
    have HI := Lib.hid (contains_one x y g cap w.heap.size w1 hc0 hk1)
    clear hown hcell hb1 HC HB0 HK HL
    go_wp2_with fail
    go_at_call 38
    refine HI.out.mono ?_
    rintro e w2 ⟨rfl, rfl⟩
    generalize hq : (x == y) = q
    have HQ := Lib.hid hq
    clear hq
    go_wp2
    go_ret
    exact ⟨by rw [HQ.out]; rfl, HB1.out⟩
end Go.Proofs.YtjgicapjbibioaaDoor
