/-
  wrong (package shelf): all that is wrong with a block and its mark, by a contract.
-/
import Derived.Test.YtacdbfaoeioflaaGreatDoorFind
import Derived.Deep.DrawnRows
import Derived.Great.BuildSlice
import Derived.Great.FillDense
namespace Go.Proofs.YtacdbfaoeioflaaGreatDoor
open Go.RowKit

/-- A block, as a value. -/
@[reducible] def Bk.val (b : Bk) : Value := .agg #[.int .i64 b.id, .int .i64 b.ver, .string b.data]
@[reducible] def Bk.cells (b : Bk) : Array Value := #[.int .i64 b.id, .int .i64 b.ver, .string b.data]
/-- The numbers of what is wrong. -/
def wrongL (b : Bk) (m : Int) : List Int :=
  (if 0 ≤ b.id ∧ b.id ≤ 255 then [] else [1]) ++ (if 1 ≤ b.ver ∧ b.ver ≤ 1099511627776 then [] else [1]) ++ (if 0 ≤ m ∧ m ≤ 1 then [] else [1]) ++ (if b.data.size ≤ 16 then [] else [11])
theorem find_wrong (b : Bk) (m : Int) : findE [1, 11] (wrongL b m) = refE b m := by
  unfold findE wrongL refE argOk
  by_cases h1 : 0 ≤ b.id ∧ b.id ≤ 255 <;> by_cases h2 : 1 ≤ b.ver ∧ b.ver ≤ 1099511627776 <;> by_cases h3 : 0 ≤ m ∧ m ≤ 1 <;> by_cases h4 : b.data.size ≤ 16
  all_goals
    simp only [h1, h2, h3, h4, if_true, if_false]
    simp [List.find?]
    try omega

/-- A block lies in the cells of block z. -/
def BC (w : World) (z : Nat) (b : Bk) : Prop := w.cell? ⟨z, 0, none⟩ = some (.int .i64 b.id) ∧ w.cell? ⟨z, 1, none⟩ = some (.int .i64 b.ver) ∧ w.cell? ⟨z, 2, none⟩ = some (.string b.data)
theorem BC.lt {w : World} {z : Nat} {b : Bk} (h : BC w z b) : z < w.heap.size := cell_lt h.1
theorem BC.below {w w' : World} {z : Nat} {b : Bk} (h : BC w z b) (hb : Below w.heap.size w w') : BC w' z b := by
  have hl := h.lt
  exact ⟨by rw [hb.cell (p := ⟨z, 0, none⟩) hl]; exact h.1, by rw [hb.cell (p := ⟨z, 1, none⟩) hl]; exact h.2.1, by rw [hb.cell (p := ⟨z, 2, none⟩) hl]; exact h.2.2⟩
theorem BC.new (w : World) (b : Bk) (t : TypeId) : BC (w.alloc (.cells b.cells t)) w.heap.size b := ⟨by simp, by simp, by simp⟩

theorem ArgE.below {w w' : World} {d g : Nat} {ps : List (Value × List Int)} (h : ArgE w d g ps) (hb : Below w.heap.size w w') : ArgE w' d g ps :=
  ⟨h.few, fun p hp => (h.es p hp).below hb, fun j p hp => by rw [hb.cell (p := ⟨g, j, none⟩) (cell_lt (h.cell j p hp))]; exact h.cell j p hp⟩
theorem unl_cells (p : Bool) (x : Int) : (unl p x).cells = #[unl p x] := by cases p <;> rfl
theorem unl_es (p : Bool) (x : Int) : ES0 (unl p x) (if p then [] else [x]) := by cases p; (exact .inr ⟨x, rfl, rfl⟩); (exact .inl ⟨rfl, rfl⟩)
/-- Four errors in a row of their own. -/
theorem four_args {w : World} {d : Nat} {v1 v2 v3 v4 : Value} {e1 e2 e3 e4 : List Int} (h1 : ES w d v1 e1) (h2 : ES w d v2 e2) (h3 : ES w d v3 e3) (h4 : ES w d v4 e4) :
    ArgE (w.alloc (.cells #[v1, v2, v3, v4] 91)) d w.heap.size [(v1, e1), (v2, e2), (v3, e3), (v4, e4)] := by
  have hb : Below w.heap.size w (w.alloc (.cells #[v1, v2, v3, v4] 91)) := (Below.refl _ _).alloc (Nat.le_refl _) _
  refine ⟨by simp, fun p hp => ?_, fun j p hp => ?_⟩
  · simp only [List.mem_cons, List.not_mem_nil, or_false] at hp
    rcases hp with rfl | rfl | rfl | rfl
    · exact h1.below hb
    · exact h2.below hb
    · exact h3.below hb
    · exact h4.below hb
  · rcases j with _ | _ | _ | _ | j
    · simp at hp; subst hp; simp
    · simp at hp; subst hp; simp
    · simp at hp; subst hp; simp
    · simp at hp; subst hp; simp
    · simp at hp

theorem run_build4 (v1 v2 v3 v4 : Value) (h1 : v1.cells = #[v1]) (h2 : v2.cells = #[v2]) (h3 : v3.cells = #[v3]) (h4 : v4.cells = #[v4]) (w : World) :
    (Instr.buildSlice 150 4 #[(0, v1), (1, v2), (2, v3), (3, v4)]).run Tryz.prog w = .ok (.slice (some ⟨w.heap.size, 0, none⟩) 4 4) (w.alloc (.cells #[v1, v2, v3, v4] 91)) := by
  obtain ⟨i0, hi0, hz0, hz1, hz2⟩ := info_parts infoErr
  refine run_buildSlice w _ 91 4 _ _ i0 _ Tryz.underlying150 hi0 hz0 (by rw [hz1]; omega) (by rw [hz1]; omega) ?_
  rw [hz1]
  have := Great.fill_whole (s := 1) (by omega) [v1, v2, v3, v4] ((Array.range (4 * 1)).map ((Value.nilIface).cells[· % (Value.nilIface).cells.size]!)) (fun v hv => by
    simp only [List.mem_cons, List.not_mem_nil, or_false] at hv
    rcases hv with rfl | rfl | rfl | rfl
    · rw [h1]; rfl
    · rw [h2]; rfl
    · rw [h3]; rfl
    · rw [h4]; rfl) (by simp)
  simpa [h1, h2, h3, h4] using this
/-- It is a value of one cell. -/
def okE (v : Value) : Prop := v.cells = #[v]
theorem wp_build4 {d : Option Tmp} {x1 x2 x3 x4 : Operand} {ty : TypeId} {pos : String} {after : Array Edge} {g : Option (Nat × Bool)} {a : Act} {w : World} {K : Act → World → Prop} {Q : Exit → Act → World → Prop} (h1 : okE (a.eval x1)) (h2 : okE (a.eval x2)) (h3 : okE (a.eval x3)) (h4 : okE (a.eval x4)) :
    Oper.wp Tryz.prog { dst := d, op := .buildSlice 150 4 #[(0, x1), (1, x2), (2, x3), (3, x4)], type := ty, pos := pos, after := after, guard := g } a w K Q = K (a.put d (.slice (some ⟨w.heap.size, 0, none⟩) 4 4)) (w.alloc (.cells #[a.eval x1, a.eval x2, a.eval x3, a.eval x4] 91)) := by
  have hr := run_build4 _ _ _ _ h1 h2 h3 h4 w
  unfold Oper.wp execOp
  simp only [List.map_toArray, List.map_cons, List.map_nil, Sem.run_bind, Sem.run_pure, Result.andThen_ok, hr]
  rfl
attribute [local go_sem ↓] Go.wp_at_zero Go.wp_at_succ wp_build4
set_option maxRecDepth 100000 in
set_option maxHeartbeats 4000000 in
theorem wrong_any (b : Bk) (m : Int) (w : World) :
    Calls Tryz.prog 78 #[b.val, .int .i64 m] w fun e w' => ∃ v, e = .returned v ∧ ES w' 1 v (wrongL b m) ∧ Below w.heap.size w w' := by
  obtain ⟨p1, hp1⟩ : ∃ p, decide (0 ≤ b.id ∧ b.id ≤ 255) = p := ⟨_, rfl⟩
  obtain ⟨p2, hp2⟩ : ∃ p, decide (1 ≤ b.ver ∧ b.ver ≤ 1099511627776) = p := ⟨_, rfl⟩
  obtain ⟨p3, hp3⟩ : ∃ p, decide (0 ≤ m ∧ m ≤ 1) = p := ⟨_, rfl⟩
  obtain ⟨p4, hp4⟩ : ∃ p, decide ((b.data.size : Int) ≤ 16) = p := ⟨_, rfl⟩
  have hL : wrongL b m = (if p1 then [] else [1]) ++ (if p2 then [] else [1]) ++ (if p3 then [] else [1]) ++ (if p4 then [] else [11]) := by
    rw [← hp1, ← hp2, ← hp3, ← hp4]
    unfold wrongL
    simp only [decide_eq_true_eq]
    by_cases h : b.data.size ≤ 16
    · rw [if_pos h, if_pos (by omega : (b.data.size : Int) ≤ 16)]
    · rw [if_neg h, if_neg (by omega : ¬ (b.data.size : Int) ≤ 16)]
  have K1 := Lib.hid (fun w => hp1 ▸ within_any b.id 0 255 w)
  have K2 := Lib.hid (fun w => hp2 ▸ within_any b.ver 1 1099511627776 w)
  have K3 := Lib.hid (fun w => hp3 ▸ within_any m 0 1 w)
  obtain ⟨v1, hv1⟩ : ∃ v, unl p1 1 = v := ⟨_, rfl⟩
  obtain ⟨v2, hv2⟩ : ∃ v, unl p2 1 = v := ⟨_, rfl⟩
  obtain ⟨v3, hv3⟩ : ∃ v, unl p3 1 = v := ⟨_, rfl⟩
  obtain ⟨v4, hv4⟩ : ∃ v, unl p4 11 = v := ⟨_, rfl⟩
  have U1 := Lib.hid (fun w => hv1 ▸ unless_any p1 1 w)
  have U2 := Lib.hid (fun w => hv2 ▸ unless_any p2 1 w)
  have U3 := Lib.hid (fun w => hv3 ▸ unless_any p3 1 w)
  have U4 := Lib.hid (fun w => hv4 ▸ unless_any p4 11 w)
  have E1 := hv1 ▸ unl_es p1 1
  have E2 := hv2 ▸ unl_es p2 1
  have E3 := hv3 ▸ unl_es p3 1
  have E4 := hv4 ▸ unl_es p4 11
  have C1 : okE v1 := hv1 ▸ unl_cells p1 1
  have C2 : okE v2 := hv2 ▸ unl_cells p2 1
  have C3 : okE v3 := hv3 ▸ unl_cells p3 1
  have C4 : okE v4 := hv4 ▸ unl_cells p4 11
  have hbc := BC.new w b 37
  have hb0 : Below w.heap.size w (w.alloc (.cells b.cells 37)) := (Below.refl _ _).alloc (Nat.le_refl _) _
  have hA := (four_args (w := w.alloc (.cells b.cells 37)) (ES.up E1 0) (ES.up E2 0) (ES.up E3 0) (ES.up E4 0)).below ((Below.refl _ _).drew)
  have hN : (w.alloc (.cells b.cells 37)).heap.size = w.heap.size + 1 := by simp
  rw [hN] at hA
  have HJ := Lib.hid (join_es 0 _ 4 _ 4 _ hA rfl)
  clear hA hN
  have S0 := Lib.hid (show BC (w.alloc (.cells b.cells 37)).drew w.heap.size b from hbc)
  have S1 := Lib.hid (hbc.below (((Below.refl _ _).alloc (Nat.le_refl _) (.cells #[v1, v2, v3, v4] 91)).drew))
  have B1 := Lib.hid ((hb0.alloc hb0.size (.cells #[v1, v2, v3, v4] 91)).drew)
  have HL := Lib.hid hL
  clear hp1 hp2 hp3 hv1 hv2 hv3 hv4 E1 E2 E3 E4 hL hbc hb0
  go_enter Tryz.func78, Tryz.ntmps78
  go_wp2_with fail
  go_region_held3 (fun w' => w'.cell? ⟨w.heap.size, 0, none⟩ = some (.int .i64 b.id) ∧ w'.cell? ⟨w.heap.size, 1, none⟩ = some (.int .i64 b.ver) ∧ w'.cell? ⟨w.heap.size, 2, none⟩ = some (.string b.data))
    (first | exact S0.out | exact S1.out | exact SJ.out | fail)
    (first
      | (go_at_call 96; with_reducible refine (K1.out _).mono ?_; rintro e w' ⟨rfl, rfl⟩)
      | (go_at_call 96; with_reducible refine (K2.out _).mono ?_; rintro e w' ⟨rfl, rfl⟩)
      | (go_at_call 96; with_reducible refine (K3.out _).mono ?_; rintro e w' ⟨rfl, rfl⟩)
      | (go_at_call 79; with_reducible refine (U1.out _).mono ?_; rintro e w' ⟨rfl, rfl⟩)
      | (go_at_call 79; with_reducible refine (U2.out _).mono ?_; rintro e w' ⟨rfl, rfl⟩)
      | (go_at_call 79; with_reducible refine (U3.out _).mono ?_; rintro e w' ⟨rfl, rfl⟩)
      | (go_at_call 79; with_reducible refine (U4.out _).mono ?_; rintro e w' ⟨rfl, rfl⟩)
      | (go_at_call 77; with_reducible refine HJ.out.mono ?_; rintro e wj ⟨v, rfl, k1, k2⟩; have SJ := Lib.hid (S1.out.below k2); have EJ := Lib.hid k1; have BJ := Lib.hid (B1.out.trans (k2.mono B1.out.size)); clear k1 k2)
      | fail)
  go_wp2
  go_ret
  refine ⟨_, rfl, ?_, BJ.out⟩
  rw [HL.out]
  simpa [List.flatMap_cons] using EJ.out
end Go.Proofs.YtacdbfaoeioflaaGreatDoor
