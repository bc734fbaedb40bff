/-
  The document's own (weirkeepref07): Zeros, wrong, Cut, Power, by contracts.
-/
import Derived.Test.YtacdbfaoeioflaaGreatDoorCrash
namespace Go.Proofs.YtacdbfaoeioflaaGreatDoor
open Go.RowKit

theorem RBv.rb {w : World} {b : Nat} {s : St} {vi vw : Value} (h : RBv w b s vi vw) : RB w b s (fun k => k = b ∨ vi.ownBlock = some k ∨ vw.ownBlock = some k) := ⟨vi, vw, h, fun _ => Iff.rfl⟩
theorem RB.v {w : World} {b : Nat} {s : St} {F : Nat → Prop} (h : RB w b s F) : ∃ vi vw, RBv w b s vi vw ∧ ∀ k, k = b ∨ vi.ownBlock = some k ∨ vw.ownBlock = some k → F k := by
  obtain ⟨vi, vw, h1, h2⟩ := h; exact ⟨vi, vw, h1, fun k hk => (h2 k).2 hk⟩
theorem Goes.ref {F : Nat → Prop} {w w' : World} {b : Nat} {s : St} {vi vw : Value} (h : RBv w' b s vi vw) (hb : F b) (hi : ∀ k, vi.ownBlock = some k → F k ∨ w.heap.size ≤ k) (hv : ∀ k, vw.ownBlock = some k → F k ∨ w.heap.size ≤ k) (hk : Keeps F w w') : Goes F w w' (RB w' b s) :=
  ⟨_, h.rb, fun k hk => by rcases hk with rfl | hk | hk; (exact .inl hb); (exact hi k hk); (exact hv k hk), hk⟩
theorem RBv.neI {w : World} {b : Nat} {s : St} {vi vw : Value} (h : RBv w b s vi vw) : vi.ownBlock ≠ some b := owns_ne h.is h.row (by decide)
theorem RBv.neW {w : World} {b : Nat} {s : St} {vi vw : Value} (h : RBv w b s vi vw) : vw.ownBlock ≠ some b := owns_ne h.wt h.row (by decide)
theorem RBv.neIW {w : World} {b : Nat} {s : St} {vi vw : Value} (h : RBv w b s vi vw) {g : Nat} (hg : vi.ownBlock = some g) : vw.ownBlock ≠ some g := owns_ne2 h.is h.wt (by decide) hg
/-- One of its own cells is stored. -/
theorem RBv.set {w : World} {b : Nat} {s s' : St} {vi vw : Value} (h : RBv w b s vi vw) (i : Nat) (x : Value) (h1 : s'.is = s.is) (hw : s'.wait = s.wait) (he : ∀ o, (if o = i then x else rf s vi vw o) = rf s' vi vw o) : RBv (w.setCell ⟨b, i, none⟩ x) b s' vi vw :=
  ⟨(h.row.set i x).congr fun o _ => he o, by rw [h1]; exact owns_kept h.is fun g hg => Below.heap_setCell _ _ _ _ (fun e => h.neI (by rw [hg]; exact congrArg some e)), by rw [hw]; exact owns_kept h.wt fun g hg => Below.heap_setCell _ _ _ _ (fun e => h.neW (by rw [hg]; exact congrArg some e))⟩
theorem RBv.setGone {w : World} {b : Nat} {s : St} {vi vw : Value} (h : RBv w b s vi vw) (g : Bool) : RBv (w.setCell ⟨b, 2, none⟩ (.bool g)) b { s with gone := g } vi vw :=
  h.set 2 _ rfl rfl (fun o => by unfold rf; by_cases e : o = 2 <;> simp [e])
theorem RBv.setLeft {w : World} {b : Nat} {s : St} {vi vw : Value} (h : RBv w b s vi vw) (l : Nat) : RBv (w.setCell ⟨b, 3, none⟩ (.int .i64 (l : Int))) b { s with left := l } vi vw :=
  h.set 3 _ rfl rfl (fun o => by unfold rf; by_cases e : o = 3 <;> simp [e])
theorem RBv.setKeep {w : World} {b : Nat} {s : St} {vi vw : Value} (h : RBv w b s vi vw) (k : Nat) : RBv (w.setCell ⟨b, 4, none⟩ (.int .u64 (k : Int))) b { s with keep := k } vi vw :=
  h.set 4 _ rfl rfl (fun o => by unfold rf; by_cases e : o = 4 <;> simp [e])
theorem RBv.setN {w : World} {b : Nat} {s : St} {vi vw : Value} (h : RBv w b s vi vw) (n : Nat) : RBv (w.setCell ⟨b, 5, none⟩ (.int .i64 (n : Int))) b { s with n := n } vi vw :=
  h.set 5 _ rfl rfl (fun o => by unfold rf; by_cases e : o = 5 <;> simp [e])

theorem scells_one (l : List (List UInt8)) : ∀ x ∈ l, ([Value.string (str x)] : List Value).length = 1 := fun _ _ => rfl
theorem rcells_two (l : List Wr) : ∀ x ∈ l, (rcells x).length = 2 := fun _ _ => rfl
/-- What both rows look like. -/
theorem RBv.shapes {w : World} {b : Nat} {s : St} {vi vw : Value} (h : RBv w b s vi vw) :
    (∃ A c, vi = .slice A s.is.length c ∧ s.is.length ≤ c ∧ c ≤ maxLen ∧ ∀ i x, s.is[i]? = some x → ∃ g, A = some ⟨g, 0, none⟩ ∧ g < w.heap.size ∧ w.cell? ⟨g, i, none⟩ = some (.string (str x))) ∧
    (∃ A c, vw = .slice A s.wait.length c ∧ s.wait.length ≤ c ∧ c ≤ maxLen ∧ ∀ i x, s.wait[i]? = some x → ∃ g, A = some ⟨g, 0, none⟩ ∧ g < w.heap.size ∧ w.cell? ⟨g, i * 2, none⟩ = some (.int .i64 (x.i : Int)) ∧ w.cell? ⟨g, i * 2 + 1, none⟩ = some (.string (str x.b))) := by
  refine ⟨?_, ?_⟩
  · rcases owns_form (f := fun x => [Value.string (str x)]) h.is (scells_one _) with ⟨hv, h0⟩ | ⟨g, cap, hv, hgl, hcap, hcm, hat⟩
    · exact ⟨none, 0, by rw [hv, h0]; rfl, by rw [h0]; exact Nat.le_refl _, by unfold maxLen; omega, fun i x hx => by rw [h0] at hx; simp at hx⟩
    · exact ⟨_, cap, hv, hcap, hcm, fun i x hx => ⟨g, rfl, hgl, by have := hat i x hx 0 _ rfl; simpa using this⟩⟩
  · rcases owns_form (f := rcells) h.wt (rcells_two _) with ⟨hv, h0⟩ | ⟨g, cap, hv, hgl, hcap, hcm, hat⟩
    · exact ⟨none, 0, by rw [hv, h0]; rfl, by rw [h0]; exact Nat.le_refl _, by unfold maxLen; omega, fun i x hx => by rw [h0] at hx; simp at hx⟩
    · exact ⟨_, cap, hv, hcap, hcm, fun i x hx => ⟨g, rfl, hgl, by have := hat i x hx 0 _ rfl; simpa using this, by have := hat i x hx 1 _ rfl; simpa using this⟩⟩

theorem info_u8 : (Tryz.prog.info? 5).map (fun i => (i.zero, i.size, i.bytes)) = some (some (.int .u8 0), 1, 1) := by kernel_rfl
set_option maxRecDepth 100000 in
theorem rzeros_any (k : Nat) (hk : k ≤ 32) (w : World) :
    Calls Tryz.prog 38 #[.int .i64 (k : Int)] w fun e w' => e = .returned (.string (str (zeros k))) ∧ Below w.heap.size w w' := by
  obtain ⟨i0, hi0, hz0, hz1, hz2⟩ := info_parts info_u8
  have hmk := run_make_row (P := Tryz.prog) 98 5 i0 (.int .u8 0) Tryz.underlying98 hi0 hz0 hz1 rfl .i64 .i64 k (by rw [hz2]; omega) (by omega) w
  have hrow := World.rowIs_made w (.int .u8 0) k 5
  have hcv := run_convert_bytes_back (P := Tryz.prog) (w.alloc (.cells (madeCells #[.int .u8 0] k) 5)) 98 9 5 ⟨w.heap.size, 0, none⟩ k (zeros k) Tryz.underlying98 Tryz.underlying5 Tryz.underlying9 (fun j hj => by
    rw [Go.WideShapes.add_plain, Nat.zero_add, hrow.cell (by simpa [zeros] using hj)]
    simp [zeros])
  rw [show (zeros k).length = k by simp [zeros]] at hcv
  have hcv : (convert 98 9 (.slice (some ⟨w.heap.size, 0, none⟩) k k)).run Tryz.prog (w.alloc (.cells (madeCells #[.int .u8 0] k) 5)) = .ok (.string (str (zeros k))) (w.alloc (.cells (madeCells #[.int .u8 0] k) 5)) := hcv
  clear hrow hi0 hz0 hz1 hz2
  go_enter Tryz.func38, Tryz.ntmps38
  go_wp2
  go_ret
  exact ⟨rfl, (Below.refl _ _).alloc (Nat.le_refl _) _⟩

theorem rwrong_any (b : Nat) (s : St) (F : Nat → Prop) (i : Int) (w : World) (h : RB w b s F) :
    Calls Tryz.prog 55 #[.pointer (some ⟨b, 0, none⟩), .int .i64 i] w fun e w' => e = .returned (.int .i64 (wrong s i)) ∧ w = w' := by
  obtain ⟨vi, vw, h, -⟩ := h.v
  obtain ⟨c0, -, c2, -⟩ := h.cells
  obtain ⟨⟨A, c, rfl, -⟩, -⟩ := h.shapes
  clear h
  unfold wrong
  cases hg : s.gone
  · rw [hg] at c2
    rw [if_neg (by simp)]
    generalize s.is.length = m at c0 ⊢
    by_cases h1 : i < 0
    · rw [if_pos (.inl h1)]
      go_enter Tryz.func55, Tryz.ntmps55
      go_wp2
      go_ret
      exact ⟨rfl, rfl⟩
    · by_cases h2 : (m : Int) ≤ i
      · rw [if_pos (.inr h2)]
        go_enter Tryz.func55, Tryz.ntmps55
        go_wp2
        go_ret
        exact ⟨rfl, rfl⟩
      · rw [if_neg (fun hc => by rcases hc with hc | hc; exact h1 hc; exact h2 hc)]
        go_enter Tryz.func55, Tryz.ntmps55
        go_wp2
        go_ret
        exact ⟨rfl, rfl⟩
  · rw [hg] at c2
    rw [if_pos rfl]
    go_enter Tryz.func55, Tryz.ntmps55
    go_wp2
    go_ret
    exact ⟨rfl, rfl⟩

set_option maxRecDepth 100000 in
theorem rcut_any (b : Nat) (s : St) (F : Nat → Prop) (k : Int) (keep : Nat) (w : World) (h : RB w b s F) :
    Calls Tryz.prog 16 #[.pointer (some ⟨b, 0, none⟩), .int .i64 k, .int .u64 keep] w fun e w' => e = .returned (.tuple #[]) ∧ Goes F w w' (RB w' b (cut s k keep)) := by
  have hbF := h.mem
  obtain ⟨vi, vw, h, hF⟩ := h.v
  obtain ⟨-, -, -, c3, c4, -⟩ := h.cells
  have f3 := h.row.frozen 3
  have f4 := h.row.frozen 4
  have P1 := Lib.hid ((h.setLeft k.toNat).setKeep keep)
  have K1 := Lib.hid (((Keeps.refl F w).set (b := b) (o := 3) (.inl hbF) (.int .i64 (k.toNat : Int))).set (b := b) (o := 4) (.inl hbF) (.int .u64 (keep : Int)))
  have HF := Lib.hid hF
  clear h hF
  have fin : ∀ w', w' = (w.setCell ⟨b, 3, none⟩ (.int .i64 (k.toNat : Int))).setCell ⟨b, 4, none⟩ (.int .u64 (keep : Int)) → Goes F w w' (RB w' b (cut s k keep)) := fun w' e => by
    subst e
    exact Goes.ref P1.out hbF (fun k hk => .inl (HF.out k (.inr (.inl hk)))) (fun k hk => .inl (HF.out k (.inr (.inr hk)))) K1.out
  have FIN := Lib.hid fin
  clear fin P1 K1
  by_cases h0 : 0 ≤ k
  · have e : (k.toNat : Int) = k := by omega
    rw [e] at FIN
    clear e
    go_enter Tryz.func16, Tryz.ntmps16
    go_wp2
    go_end0
    exact ⟨rfl, FIN.out _ rfl⟩
  · have e : (k.toNat : Int) = 0 := by omega
    rw [e] at FIN
    clear e
    go_enter Tryz.func16, Tryz.ntmps16
    go_wp2
    go_end0
    exact ⟨rfl, FIN.out _ rfl⟩

set_option maxRecDepth 100000 in
theorem rpower_any (b : Nat) (s : St) (F : Nat → Prop) (w : World) (h : RB w b s F) :
    Calls Tryz.prog 26 #[.pointer (some ⟨b, 0, none⟩)] w fun e w' => e = .returned (.tuple #[]) ∧ Goes F w w' (RB w' b (power s)) := by
  have hbF := h.mem
  obtain ⟨vi, vw, h, hF⟩ := h.v
  obtain ⟨-, -, c2, c3, -⟩ := h.cells
  have f2 := h.row.frozen 2
  have f3 := h.row.frozen 3
  have P1 := Lib.hid ((h.setGone false).setLeft 0)
  have K1 := Lib.hid (((Keeps.refl F w).set (b := b) (o := 2) (.inl hbF) (.bool false)).set (b := b) (o := 3) (.inl hbF) (.int .i64 ((0 : Nat) : Int)))
  have HF := Lib.hid hF
  have e : ((0 : Nat) : Int) = 0 := rfl
  rw [e] at P1 K1
  clear h hF e
  go_enter Tryz.func26, Tryz.ntmps26
  go_wp2
  go_end0
  exact ⟨rfl, Goes.ref P1.out hbF (fun k hk => .inl (HF.out k (.inr (.inl hk)))) (fun k hk => .inl (HF.out k (.inr (.inr hk)))) K1.out⟩
end Go.Proofs.YtacdbfaoeioflaaGreatDoor
