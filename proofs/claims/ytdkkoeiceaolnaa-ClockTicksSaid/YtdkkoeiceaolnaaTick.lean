/-
  Clocks (package clock), by contracts: New, Len, has, Tick, Now.
-/
import Derived.Test.YtdkkoeiceaolnaaClamp
import Derived.Deep.OwnRows
namespace Go.Proofs.Ytdkkoeiceaolnaa
open Go.RowKit

/-- What Tick answers, and what a clock is then: k clocks, at T. -/
def tkE (k : Nat) (T : Nat → Int) (node by' : Int) : Int :=
  if node < 0 ∨ (k : Int) ≤ node then 3 else if by' < 0 then 1 else if 1099511627776 - T node.toNat < by' then 6 else 0
def tkT (k : Nat) (T : Nat → Int) (node by' : Int) : Nat → Int := fun i => if tkE k T node by' = 0 ∧ i = node.toNat then T i + by' else T i
def nowV (k : Nat) (T : Nat → Int) (node : Int) : Int := if node < 0 ∨ (k : Int) ≤ node then 0 else T node.toNat
/-- All clocks within their times. -/
def TOk (T : Nat → Int) : Prop := ∀ i, 0 ≤ T i ∧ T i ≤ 1099511627776
theorem tkT_ok {k : Nat} {T : Nat → Int} {node by' : Int} (h : TOk T) : TOk (tkT k T node by') := by
  intro i
  have h1 := h i
  unfold tkT
  split
  · rename_i hc
    obtain ⟨he, rfl⟩ := hc
    unfold tkE at he
    split at he
    · simp at he
    · split at he
      · simp at he
      · split at he
        · simp at he
        · omega
  · exact h1
theorem tk_none {k : Nat} {T : Nat → Int} {node by' : Int} (h : node < 0 ∨ (k : Int) ≤ node) : tkE k T node by' = 3 := by unfold tkE; rw [if_pos h]
theorem tk_arg {k i : Nat} {T : Nat → Int} {by' : Int} (h : i < k) (h1 : by' < 0) : tkE k T i by' = 1 := by unfold tkE; rw [if_neg (by omega), if_pos h1]
theorem tk_max {k i : Nat} {T : Nat → Int} {by' : Int} (h : i < k) (h1 : 0 ≤ by') (h2 : 1099511627776 - T i < by') : tkE k T i by' = 6 := by unfold tkE; rw [if_neg (by omega), if_neg (by omega), if_pos (by simpa using h2)]
theorem tk_ok {k i : Nat} {T : Nat → Int} {by' : Int} (h : i < k) (h1 : 0 ≤ by') (h2 : by' ≤ 1099511627776 - T i) : tkE k T i by' = 0 := by unfold tkE; rw [if_neg (by omega), if_neg (by omega), if_neg (by simp; omega)]
theorem tkT_same {k : Nat} {T : Nat → Int} {node by' : Int} (h : tkE k T node by' ≠ 0) : tkT k T node by' = T := by
  funext i; unfold tkT; rw [if_neg (fun e => h e.1)]

/-- The cells of clocks: how many, then each. -/
def ckF (k : Nat) (T : Nat → Int) : Nat → Value := fun i => if i = 0 then .int .i64 k else .int .i64 (T (i - 1))
def Ck (w : World) (b k : Nat) (T : Nat → Int) : Prop := w.rowIs b 52 9 (ckF k T)
theorem Ck.count {w : World} {b k : Nat} {T : Nat → Int} (h : Ck w b k T) : w.cell? ⟨b, 0, none⟩ = some (.int .i64 k) := World.rowIs.cell h (by omega)
theorem Ck.now {w : World} {b k : Nat} {T : Nat → Int} (h : Ck w b k T) {i : Nat} (hi : i < 8) : w.cell? ⟨b, 1 + i, none⟩ = some (.int .i64 (T i)) := by
  rw [World.rowIs.cell h (by omega)]; unfold ckF; rw [if_neg (by omega)]; congr 3; omega
theorem Ck.set {w : World} {b k i : Nat} {T : Nat → Int} (h : Ck w b k T) (v : Int) : Ck (w.setCell ⟨b, 1 + i, none⟩ (.int .i64 v)) b k (fun j => if j = i then v else T j) := by
  refine (World.rowIs.set h (1 + i) _).congr fun j _ => ?_
  unfold ckF
  by_cases h0 : j = 0
  · subst h0; rw [if_neg (by omega)]; rfl
  · rw [if_neg h0, if_neg h0]
    by_cases h1 : j = 1 + i
    · rw [if_pos h1]; show _ = Value.int .i64 (if j - 1 = i then v else T (j - 1)); rw [if_pos (by omega)]
    · rw [if_neg h1]; show _ = Value.int .i64 (if j - 1 = i then v else T (j - 1)); rw [if_neg (by omega)]
/-- Only block b has turned. -/
structure Chg (b : Nat) (w w' : World) : Prop where
  os : w'.os = w.os
  tape : w'.tape = w.tape
  output : w'.output = w.output
  size : w'.heap.size = w.heap.size
  block : ∀ k, k ≠ b → w'.heap[k]? = w.heap[k]?
theorem Chg.refl (b : Nat) (w : World) : Chg b w w := ⟨rfl, rfl, rfl, rfl, fun _ _ => rfl⟩
theorem Chg.set (b i : Nat) (w : World) (v : Value) : Chg b w (w.setCell ⟨b, i, none⟩ v) := ⟨rfl, rfl, rfl, Deep.nblk_setCell _ _ _, fun _ hk => Deep.blk_setCell_other _ _ _ _ hk⟩
theorem Chg.drew {b : Nat} {w w' : World} (h : Chg b w.drew w') : Chg b w w' := ⟨h.os, h.tape, h.output, h.size, h.block⟩
theorem Chg.drawn {b : Nat} {w w' : World} (h : Chg b w w') : Chg b w w'.drew := ⟨h.os, h.tape, h.output, h.size, h.block⟩
theorem Chg.below {b B : Nat} {w0 w w' : World} (h : Chg b w w') (hb : Below B w0 w) (hB : B ≤ b) : Below B w0 w' :=
  ⟨h.os.trans hb.os, h.tape.trans hb.tape, h.output.trans hb.output, by rw [h.size]; exact hb.size, fun k hk => (h.block k (by omega)).trans (hb.block k hk)⟩
theorem Chg.cell {b : Nat} {w w' : World} (h : Chg b w w') {c o : Nat} (hc : c ≠ b) : w'.cell? ⟨c, o, none⟩ = w.cell? ⟨c, o, none⟩ := by
  unfold World.cell?; simp only; rw [h.block c hc]
theorem Chg.row {b : Nat} {w w' : World} (h : Chg b w w') {c t n : Nat} {f : Nat → Value} (hc : c ≠ b) (hr : w.rowIs c t n f) : w'.rowIs c t n f := hr.of_block (h.block c hc)

theorem new_any (n : Int) (w : World) :
    Calls Try.prog 9 #[.int .i64 n] w fun e w' => e = .returned (.pointer (some ⟨w.heap.size, 0, none⟩)) ∧ Ck w' w.heap.size (cl n 1 8).toNat (fun _ => 0) ∧ Below w.heap.size w w' ∧ w'.heap.size = w.heap.size + 1 := by
  have hc := cl_in n 1 8 (by omega)
  have HN := Lib.hid (show ((cl n 1 8).toNat : Int) = cl n 1 8 by omega)
  clear hc
  go_enter Try.func9, Try.ntmps9
  go_wp2_with (go_at_call 22; refine (countOf_any _ _).mono ?_; rintro e w' ⟨rfl, rfl⟩)
  go_ret
  refine ⟨rfl, ?_, ?_, ?_⟩
  · refine World.rowIs_alloc w _ _ _ (fun i hi => ?_)
    unfold ckF
    rw [HN.out]
    have hi' : i < 9 := hi
    match i, hi' with
    | 0, _ => rfl
    | 1, _ | 2, _ | 3, _ | 4, _ | 5, _ | 6, _ | 7, _ | 8, _ => rfl
  · go_grown
  · simp
theorem len_any (b k : Nat) (T : Nat → Int) (w : World) (h : Ck w b k T) :
    Calls Try.prog 11 #[.pointer (some ⟨b, 0, none⟩)] w fun e w' => e = .returned (.int .i64 k) ∧ w = w' := by
  have h0 := h.count
  clear h
  go_enter Try.func11, Try.ntmps11
  go_wp2
  go_ret
  exact ⟨rfl, rfl⟩
theorem has_no (b k : Nat) (T : Nat → Int) (node : Int) (w : World) (h : Ck w b k T) (hn : node < 0 ∨ (k : Int) ≤ node) :
    Calls Try.prog 24 #[.pointer (some ⟨b, 0, none⟩), .int .i64 node] w fun e w' => e = .returned (.bool false) ∧ w = w' := by
  have h0 := h.count
  clear h
  rcases Int.lt_or_le node 0 with hl | hl
  · clear hn
    go_enter Try.func24, Try.ntmps24
    go_wp2
    go_ret
    exact ⟨rfl, rfl⟩
  · have h1 : decide (node < (k : Int)) = false := by simp; omega
    clear hn
    go_enter Try.func24, Try.ntmps24
    go_wp2
    go_ret
    exact ⟨rfl, rfl⟩
theorem has_yes (b k : Nat) (T : Nat → Int) (i : Nat) (w : World) (h : Ck w b k T) (hn : i < k) :
    Calls Try.prog 24 #[.pointer (some ⟨b, 0, none⟩), .int .i64 i] w fun e w' => e = .returned (.bool true) ∧ w = w' := by
  have h0 := h.count
  have h1 : (i : Int) < (k : Int) := by omega
  clear h
  go_enter Try.func24, Try.ntmps24
  go_wp2
  go_ret
  exact ⟨rfl, rfl⟩
theorem now_any (b k : Nat) (T : Nat → Int) (node : Int) (w : World) (h : Ck w b k T) (hk : k ≤ 8) :
    Calls Try.prog 14 #[.pointer (some ⟨b, 0, none⟩), .int .i64 node] w fun e w' => e = .returned (.int .i64 (nowV k T node)) ∧ w = w' := by
  by_cases hn : node < 0 ∨ (k : Int) ≤ node
  · have e : nowV k T node = 0 := by unfold nowV; rw [if_pos hn]
    rw [e]
    have HH := has_no b k T node w h hn
    clear h e hn
    go_enter Try.func14, Try.ntmps14
    go_wp2_with (go_at_call 24; refine HH.mono ?_; rintro e w' ⟨rfl, rfl⟩)
    go_ret
    exact ⟨rfl, rfl⟩
  · obtain ⟨i, rfl⟩ : ∃ i : Nat, node = i := ⟨node.toNat, by omega⟩
    have hi : i < k := by omega
    have e : nowV k T i = T i := by unfold nowV; rw [if_neg hn]; rfl
    rw [e]
    have HH := has_yes b k T i w h hi
    have h1 := h.now (i := i) (by omega)
    have h2 : (i : Int) < 8 := by omega
    clear h e hn
    go_enter Try.func14, Try.ntmps14
    go_wp2_with (go_at_call 24; refine HH.mono ?_; rintro e w' ⟨rfl, rfl⟩)
    go_ret
    exact ⟨rfl, rfl⟩
set_option maxHeartbeats 1000000 in
theorem tick_any (b k : Nat) (T : Nat → Int) (node by' : Int) (w : World) (h : Ck w b k T) (hk : k ≤ 8) (hT : TOk T) :
    Calls Try.prog 12 #[.pointer (some ⟨b, 0, none⟩), .int .i64 node, .int .i64 by'] w fun e w' => e = .returned (.int .i64 (tkE k T node by')) ∧ Ck w' b k (tkT k T node by') ∧ Chg b w w' := by
  by_cases hn : node < 0 ∨ (k : Int) ≤ node
  · have e := tk_none (T := T) (by' := by') hn
    rw [tkT_same (by rw [e]; omega), e]
    have HH := has_no b k T node w h hn
    have HC := Lib.hid h
    clear h e hn hT
    go_enter Try.func12, Try.ntmps12
    go_wp2_with (go_at_call 24; refine HH.mono ?_; rintro e w' ⟨rfl, rfl⟩)
    go_ret
    exact ⟨rfl, HC.out, Chg.refl _ _⟩
  · obtain ⟨i, rfl⟩ : ∃ i : Nat, node = i := ⟨node.toNat, by omega⟩
    have hi : i < k := by omega
    have HH := has_yes b k T i w h hi
    have h1 := h.now (i := i) (by omega)
    have hf : w.frozen? ⟨b, 1 + i, none⟩ = false := World.rowIs.frozen h _
    have h2 : (i : Int) < 8 := by omega
    obtain ⟨t0, t1⟩ := hT i
    have HC := Lib.hid h
    clear hn h hT
    rcases Int.lt_or_le by' 0 with hb | hb
    · have e := tk_arg (T := T) hi hb
      rw [tkT_same (by rw [e]; omega), e]
      clear e
      go_enter Try.func12, Try.ntmps12
      go_wp2_with (go_at_call 24; refine HH.mono ?_; rintro e w' ⟨rfl, rfl⟩)
      go_ret
      exact ⟨rfl, HC.out, Chg.refl _ _⟩
    · rcases Int.lt_or_le (1099511627776 - T i) by' with hm | hm
      · have e := tk_max hi hb hm
        rw [tkT_same (by rw [e]; omega), e]
        clear e
        go_enter Try.func12, Try.ntmps12
        go_wp2_with (go_at_call 24; refine HH.mono ?_; rintro e w' ⟨rfl, rfl⟩)
        go_ret
        exact ⟨rfl, HC.out, Chg.refl _ _⟩
      · have e := tk_ok hi hb hm
        rw [e]
        have hT := Lib.hid (show tkT k T i by' = fun j => if j = i then T i + by' else T j by
          funext j; unfold tkT; rw [e]
          by_cases hj : j = i
          · subst hj; simp
          · simp [hj])
        clear e
        go_enter Try.func12, Try.ntmps12
        go_wp2_with (go_at_call 24; refine HH.mono ?_; rintro e w' ⟨rfl, rfl⟩)
        go_region
        go_wp2
        go_ret
        refine ⟨rfl, ?_, ?_⟩
        · rw [hT.out]; exact HC.out.set _
        · exact (Chg.set b (1 + i) w _).drawn
end Go.Proofs.Ytdkkoeiceaolnaa
