/-
  The document's own clocks (weirkeepref05), by contracts: New, Tick, Now.
-/
import Derived.Test.YtdkkoeiceaolnaaTick
namespace Go.Proofs.Ytdkkoeiceaolnaa
open Go.RowKit

/-- The document's clocks: a list in block g, behind block b. -/
structure Rk (w : World) (b g k : Nat) (T : Nat → Int) : Prop where
  head : w.rowIs b 30 1 (fun _ => .slice (some ⟨g, 0, none⟩) k k)
  row : w.rowIs g 3 k (fun i => .int .i64 (T i))
  ne : b ≠ g
theorem Rk.list {w : World} {b g k : Nat} {T : Nat → Int} (h : Rk w b g k T) : w.cell? ⟨b, 0, none⟩ = some (.slice (some ⟨g, 0, none⟩) k k) := h.head.cell (by omega)
theorem Rk.now {w : World} {b g k : Nat} {T : Nat → Int} (h : Rk w b g k T) {i : Nat} (hi : i < k) : w.cell? ⟨g, i, none⟩ = some (.int .i64 (T i)) := h.row.cell hi
theorem Rk.set {w : World} {b g k i : Nat} {T : Nat → Int} (h : Rk w b g k T) (v : Int) : Rk (w.setCell ⟨g, i, none⟩ (.int .i64 v)) b g k (fun j => if j = i then v else T j) := by
  refine ⟨h.head.setOther h.ne _, (h.row.set i _).congr fun j _ => ?_, h.ne⟩
  by_cases h1 : j = i
  · simp [h1]
  · simp [h1]
theorem Rk.kept {w w' : World} {b g k c : Nat} {T : Nat → Int} (h : Rk w b g k T) (hc : Chg c w w') (h1 : b ≠ c) (h2 : g ≠ c) : Rk w' b g k T := ⟨hc.row h1 h.head, hc.row h2 h.row, h.ne⟩

theorem Try.infoInt : (Try.prog.info? 3).map (fun i => (i.zero, i.size, i.bytes)) = some (some (.int .i64 0), 1, 8) := by kernel_rfl

theorem rnew_any (n : Int) (w : World) :
    Calls Try.prog 10 #[.int .i64 n] w fun e w' => e = .returned (.pointer (some ⟨w.heap.size + 1, 0, none⟩)) ∧ Rk w' (w.heap.size + 1) w.heap.size (cl n 1 8).toNat (fun _ => 0) ∧ Below w.heap.size w w' ∧ w'.heap.size = w.heap.size + 2 := by
  have hc := cl_in n 1 8 (by omega)
  obtain ⟨k, hk⟩ : ∃ k : Nat, cl n 1 8 = k := ⟨(cl n 1 8).toNat, by omega⟩
  have HM : ∀ w, Calls Try.prog 23 #[.int .i64 n] w fun e w' => e = .returned (.int .i64 k) ∧ w = w' := fun w => hk ▸ many_any n w
  rw [hk]
  have hk8 : k ≤ 8 := by omega
  clear hc hk
  have hmk : ∀ w : World, (Instr.makeSlice 28 (.int .i64 (k : Int)) (.int .i64 (k : Int))).run Try.prog w = .ok (.slice (some ⟨w.heap.size, 0, none⟩) k k) (w.alloc (.cells (madeCells #[.int .i64 0] k) 3)) :=
    fun w => run_make_row' 28 3 _ 8 Try.underlying28 Try.infoInt rfl .i64 .i64 k (by omega) (by omega) w
  go_enter Try.func10, Try.ntmps10
  go_wp2_with (go_at_call 23; refine (HM _).mono ?_; rintro e w' ⟨rfl, rfl⟩)
  go_ret
  refine ⟨rfl, ⟨?_, ?_, by omega⟩, ?_, ?_⟩
  · have := World.rowIs_alloc (w.alloc (.cells (madeCells #[.int .i64 0] k) 3)) #[.slice (some ⟨w.heap.size, 0, none⟩) k k] 30 (fun _ => .slice (some ⟨w.heap.size, 0, none⟩) k k) (fun i hi => by
      have hi' : i < 1 := hi
      obtain rfl : i = 0 := by omega
      rfl)
    rw [World.size_alloc] at this
    exact this
  · exact (World.rowIs_made w (.int .i64 0) k 3).alloc _
  · go_grown
  · simp

theorem rnow_any (b g k : Nat) (T : Nat → Int) (node : Int) (w : World) (h : Rk w b g k T) :
    Calls Try.prog 15 #[.pointer (some ⟨b, 0, none⟩), .int .i64 node] w fun e w' => e = .returned (.int .i64 (nowV k T node)) ∧ w = w' := by
  have h0 := h.list
  by_cases hn : node < 0 ∨ (k : Int) ≤ node
  · have e : nowV k T node = 0 := by unfold nowV; rw [if_pos hn]
    rw [e]
    clear h e
    rcases Int.lt_or_le node 0 with hl | hl
    · clear hn
      go_enter Try.func15, Try.ntmps15
      go_wp2
      go_ret
      exact ⟨rfl, rfl⟩
    · have h1 : (k : Int) ≤ node := by omega
      clear hn
      go_enter Try.func15, Try.ntmps15
      go_wp2
      go_ret
      exact ⟨rfl, rfl⟩
  · obtain ⟨i, rfl⟩ : ∃ i : Nat, node = i := ⟨node.toNat, by omega⟩
    have hi : i < k := by omega
    have e : nowV k T i = T i := by unfold nowV; rw [if_neg hn]; rfl
    rw [e]
    have h1 := h.now hi
    have h2 : (i : Int) < (k : Int) := by omega
    clear h e hn
    go_enter Try.func15, Try.ntmps15
    go_wp2
    go_ret
    exact ⟨rfl, rfl⟩
set_option maxHeartbeats 1000000 in
theorem rtick_any (b g k : Nat) (T : Nat → Int) (node by' : Int) (w : World) (h : Rk w b g k T) (hT : TOk T) :
    Calls Try.prog 13 #[.pointer (some ⟨b, 0, none⟩), .int .i64 node, .int .i64 by'] w fun e w' => e = .returned (.int .i64 (tkE k T node by')) ∧ Rk w' b g k (tkT k T node by') ∧ Chg g w w' := by
  have h0 := h.list
  have HC := Lib.hid h
  by_cases hn : node < 0 ∨ (k : Int) ≤ node
  · have e := tk_none (T := T) (by' := by') hn
    rw [tkT_same (by rw [e]; omega), e]
    clear h e hT
    rcases Int.lt_or_le node 0 with hl | hl
    · clear hn
      go_enter Try.func13, Try.ntmps13
      go_wp2
      go_ret
      exact ⟨rfl, HC.out, Chg.refl _ _⟩
    · have h1 : (k : Int) ≤ node := by omega
      clear hn
      go_enter Try.func13, Try.ntmps13
      go_wp2
      go_ret
      exact ⟨rfl, HC.out, Chg.refl _ _⟩
  · obtain ⟨i, rfl⟩ : ∃ i : Nat, node = i := ⟨node.toNat, by omega⟩
    have hi : i < k := by omega
    have h1 := h.now hi
    have hf : w.frozen? ⟨g, i, none⟩ = false := World.rowIs.frozen h.row _
    have h2 : (i : Int) < (k : Int) := by omega
    obtain ⟨t0, t1⟩ := hT i
    clear hn h hT
    rcases Int.lt_or_le by' 0 with hb | hb
    · have e := tk_arg (T := T) hi hb
      rw [tkT_same (by rw [e]; omega), e]
      clear e
      go_enter Try.func13, Try.ntmps13
      go_wp2
      go_ret
      exact ⟨rfl, HC.out, Chg.refl _ _⟩
    · rcases Int.lt_or_le (1099511627776 - T i) by' with hm | hm
      · have e := tk_max hi hb hm
        rw [tkT_same (by rw [e]; omega), e]
        clear e
        go_enter Try.func13, Try.ntmps13
        go_wp2
        go_ret
        exact ⟨rfl, HC.out, Chg.refl _ _⟩
      · have e := tk_ok hi hb hm
        rw [e]
        have hT := Lib.hid (show tkT k T i by' = fun j => if j = i then T i + by' else T j by
          funext j; unfold tkT; rw [e]
          by_cases hj : j = i
          · subst hj; simp
          · simp [hj])
        clear e
        go_enter Try.func13, Try.ntmps13
        go_wp2
        go_region
        go_wp2
        go_ret
        refine ⟨rfl, ?_, ?_⟩
        · rw [hT.out]; exact ⟨(HC.out.set _).head, (HC.out.set _).row, HC.out.ne⟩
        · exact (Chg.set g i w _).drawn
end Go.Proofs.Ytdkkoeiceaolnaa
