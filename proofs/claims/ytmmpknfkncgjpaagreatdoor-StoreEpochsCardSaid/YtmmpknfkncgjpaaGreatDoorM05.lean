/-
  The document's own (weirkeepref07): Zeros, wrong, Cut, Power, by contracts.

  Sync (package plate), by a contract.

  Write (package plate), by a contract.
-/
import Derived.Test.YtmmpknfkncgjpaaGreatDoorM03
import Derived.Great.BuildSlice
import Derived.Deep.DrawnRows
namespace Go.Proofs.YtmmpknfkncgjpaaGreatDoor
open Go.RowKit

theorem RBv.rb {w : World} {b : Nat} {s : St} {vi vw : Value} (h : RBv w b s vi vw) : RB w b s (fun k => k = b ∨ vi.ownBlock = some k ∨ vw.ownBlock = some k) := ⟨vi, vw, h, fun _ => Iff.rfl⟩
theorem RB.v {w : World} {b : Nat} {s : St} {F : Nat → Prop} (h : RB w b s F) : ∃ vi vw, RBv w b s vi vw ∧ ∀ k, k = b ∨ vi.ownBlock = some k ∨ vw.ownBlock = some k → F k := by
  obtain ⟨vi, vw, h1, h2⟩ := h; exact ⟨vi, vw, h1, fun k hk => (h2 k).2 hk⟩
theorem Goes.ref {F : Nat → Prop} {w w' : World} {b : Nat} {s : St} {vi vw : Value} (h : RBv w' b s vi vw) (hb : F b) (hi : ∀ k, vi.ownBlock = some k → F k ∨ w.heap.size ≤ k) (hv : ∀ k, vw.ownBlock = some k → F k ∨ w.heap.size ≤ k) (hk : Keeps F w w') : Goes F w w' (RB w' b s) :=
  ⟨_, h.rb, fun k hk => by rcases hk with rfl | hk | hk; (exact .inl hb); (exact hi k hk); (exact hv k hk), hk⟩
theorem RBv.neI {w : World} {b : Nat} {s : St} {vi vw : Value} (h : RBv w b s vi vw) : vi.ownBlock ≠ some b := owns_ne h.is h.row (by decide)
theorem RBv.neW {w : World} {b : Nat} {s : St} {vi vw : Value} (h : RBv w b s vi vw) : vw.ownBlock ≠ some b := owns_ne h.wt h.row (by decide)
theorem RBv.neIW {w : World} {b : Nat} {s : St} {vi vw : Value} (h : RBv w b s vi vw) {g : Nat} (hg : vi.ownBlock = some g) : vw.ownBlock ≠ some g := owns_ne2 h.is h.wt (by decide) hg
/-- One of its own cells is stored. -/
theorem RBv.set {w : World} {b : Nat} {s s' : St} {vi vw : Value} (h : RBv w b s vi vw) (i : Nat) (x : Value) (h1 : s'.is = s.is) (hw : s'.wait = s.wait) (he : ∀ o, (if o = i then x else rf s vi vw o) = rf s' vi vw o) : RBv (w.setCell ⟨b, i, none⟩ x) b s' vi vw :=
  ⟨(h.row.set i x).congr fun o _ => he o, by rw [h1]; exact owns_kept h.is fun g hg => Below.heap_setCell _ _ _ _ (fun e => h.neI (by rw [hg]; exact congrArg some e)), by rw [hw]; exact owns_kept h.wt fun g hg => Below.heap_setCell _ _ _ _ (fun e => h.neW (by rw [hg]; exact congrArg some e))⟩
theorem RBv.setGone {w : World} {b : Nat} {s : St} {vi vw : Value} (h : RBv w b s vi vw) (g : Bool) : RBv (w.setCell ⟨b, 2, none⟩ (.bool g)) b { s with gone := g } vi vw :=
  h.set 2 _ rfl rfl (fun o => by unfold rf; by_cases e : o = 2 <;> simp [e])
theorem RBv.setLeft {w : World} {b : Nat} {s : St} {vi vw : Value} (h : RBv w b s vi vw) (l : Nat) : RBv (w.setCell ⟨b, 3, none⟩ (.int .i64 (l : Int))) b { s with left := l } vi vw :=
  h.set 3 _ rfl rfl (fun o => by unfold rf; by_cases e : o = 3 <;> simp [e])
theorem RBv.setKeep {w : World} {b : Nat} {s : St} {vi vw : Value} (h : RBv w b s vi vw) (k : Nat) : RBv (w.setCell ⟨b, 4, none⟩ (.int .u64 (k : Int))) b { s with keep := k } vi vw :=
  h.set 4 _ rfl rfl (fun o => by unfold rf; by_cases e : o = 4 <;> simp [e])
theorem RBv.setN {w : World} {b : Nat} {s : St} {vi vw : Value} (h : RBv w b s vi vw) (n : Nat) : RBv (w.setCell ⟨b, 5, none⟩ (.int .i64 (n : Int))) b { s with n := n } vi vw :=
  h.set 5 _ rfl rfl (fun o => by unfold rf; by_cases e : o = 5 <;> simp [e])

theorem scells_one (l : List (List UInt8)) : ∀ x ∈ l, ([Value.string (str x)] : List Value).length = 1 := fun _ _ => rfl
theorem rcells_two (l : List Wr) : ∀ x ∈ l, (rcells x).length = 2 := fun _ _ => rfl
/-- What both rows look like. -/
theorem RBv.shapes {w : World} {b : Nat} {s : St} {vi vw : Value} (h : RBv w b s vi vw) :
    (∃ A c, vi = .slice A s.is.length c ∧ s.is.length ≤ c ∧ c ≤ maxLen ∧ ∀ i x, s.is[i]? = some x → ∃ g, A = some ⟨g, 0, none⟩ ∧ g < w.heap.size ∧ w.cell? ⟨g, i, none⟩ = some (.string (str x))) ∧
    (∃ A c, vw = .slice A s.wait.length c ∧ s.wait.length ≤ c ∧ c ≤ maxLen ∧ ∀ i x, s.wait[i]? = some x → ∃ g, A = some ⟨g, 0, none⟩ ∧ g < w.heap.size ∧ w.cell? ⟨g, i * 2, none⟩ = some (.int .i64 (x.i : Int)) ∧ w.cell? ⟨g, i * 2 + 1, none⟩ = some (.string (str x.b))) := by
  refine ⟨?_, ?_⟩
  · rcases owns_form (f := fun x => [Value.string (str x)]) h.is (scells_one _) with ⟨hv, h0⟩ | ⟨g, cap, hv, hgl, hcap, hcm, hat⟩
    · exact ⟨none, 0, by rw [hv, h0]; rfl, by rw [h0]; exact Nat.le_refl _, by unfold maxLen; omega, fun i x hx => by rw [h0] at hx; simp at hx⟩
    · exact ⟨_, cap, hv, hcap, hcm, fun i x hx => ⟨g, rfl, hgl, by have := hat i x hx 0 _ rfl; simpa using this⟩⟩
  · rcases owns_form (f := rcells) h.wt (rcells_two _) with ⟨hv, h0⟩ | ⟨g, cap, hv, hgl, hcap, hcm, hat⟩
    · exact ⟨none, 0, by rw [hv, h0]; rfl, by rw [h0]; exact Nat.le_refl _, by unfold maxLen; omega, fun i x hx => by rw [h0] at hx; simp at hx⟩
    · exact ⟨_, cap, hv, hcap, hcm, fun i x hx => ⟨g, rfl, hgl, by have := hat i x hx 0 _ rfl; simpa using this, by have := hat i x hx 1 _ rfl; simpa using this⟩⟩

theorem info_u8 : (Tryz.prog.info? 5).map (fun i => (i.zero, i.size, i.bytes)) = some (some (.int .u8 0), 1, 1) := by kernel_rfl
set_option maxRecDepth 100000 in
theorem rzeros_any (k : Nat) (hk : k ≤ 32) (w : World) :
    Calls Tryz.prog 66 #[.int .i64 (k : Int)] w fun e w' => e = .returned (.string (str (zeros k))) ∧ Below w.heap.size w w' := by
  obtain ⟨i0, hi0, hz0, hz1, hz2⟩ := info_parts info_u8
  have hmk := run_make_row (P := Tryz.prog) 73 5 i0 (.int .u8 0) Tryz.underlying73 hi0 hz0 hz1 rfl .i64 .i64 k (by rw [hz2]; omega) (by omega) w
  have hrow := World.rowIs_made w (.int .u8 0) k 5
  have hcv := run_convert_bytes_back (P := Tryz.prog) (w.alloc (.cells (madeCells #[.int .u8 0] k) 5)) 73 9 5 ⟨w.heap.size, 0, none⟩ k (zeros k) Tryz.underlying73 Tryz.underlying5 Tryz.underlying9 (fun j hj => by
    rw [Go.WideShapes.add_plain, Nat.zero_add, hrow.cell (by simpa [zeros] using hj)]
    simp [zeros])
  rw [show (zeros k).length = k by simp [zeros]] at hcv
  have hcv : (convert 73 9 (.slice (some ⟨w.heap.size, 0, none⟩) k k)).run Tryz.prog (w.alloc (.cells (madeCells #[.int .u8 0] k) 5)) = .ok (.string (str (zeros k))) (w.alloc (.cells (madeCells #[.int .u8 0] k) 5)) := hcv
  clear hrow hi0 hz0 hz1 hz2
  go_enter Tryz.func66, Tryz.ntmps66
  go_wp2
  go_ret
  exact ⟨rfl, (Below.refl _ _).alloc (Nat.le_refl _) _⟩

theorem rwrong_any (b : Nat) (s : St) (F : Nat → Prop) (i : Int) (w : World) (h : RB w b s F) :
    Calls Tryz.prog 127 #[.pointer (some ⟨b, 0, none⟩), .int .i64 i] w fun e w' => e = .returned (.int .i64 (wrong s i)) ∧ w = w' := by
  obtain ⟨vi, vw, h, -⟩ := h.v
  obtain ⟨c0, -, c2, -⟩ := h.cells
  obtain ⟨⟨A, c, rfl, -⟩, -⟩ := h.shapes
  clear h
  unfold wrong
  cases hg : s.gone
  · rw [hg] at c2
    rw [if_neg (by simp)]
    generalize s.is.length = m at c0 ⊢
    by_cases h1 : i < 0
    · rw [if_pos (.inl h1)]
      go_enter Tryz.func127, Tryz.ntmps127
      go_wp2
      go_ret
      exact ⟨rfl, rfl⟩
    · by_cases h2 : (m : Int) ≤ i
      · rw [if_pos (.inr h2)]
        go_enter Tryz.func127, Tryz.ntmps127
        go_wp2
        go_ret
        exact ⟨rfl, rfl⟩
      · rw [if_neg (fun hc => by rcases hc with hc | hc; exact h1 hc; exact h2 hc)]
        go_enter Tryz.func127, Tryz.ntmps127
        go_wp2
        go_ret
        exact ⟨rfl, rfl⟩
  · rw [hg] at c2
    rw [if_pos rfl]
    go_enter Tryz.func127, Tryz.ntmps127
    go_wp2
    go_ret
    exact ⟨rfl, rfl⟩

set_option maxRecDepth 100000 in
theorem rcut_any (b : Nat) (s : St) (F : Nat → Prop) (k : Int) (keep : Nat) (w : World) (h : RB w b s F) :
    Calls Tryz.prog 35 #[.pointer (some ⟨b, 0, none⟩), .int .i64 k, .int .u64 keep] w fun e w' => e = .returned (.tuple #[]) ∧ Goes F w w' (RB w' b (cut s k keep)) := by
  have hbF := h.mem
  obtain ⟨vi, vw, h, hF⟩ := h.v
  obtain ⟨-, -, -, c3, c4, -⟩ := h.cells
  have f3 := h.row.frozen 3
  have f4 := h.row.frozen 4
  have P1 := Lib.hid ((h.setLeft k.toNat).setKeep keep)
  have K1 := Lib.hid (((Keeps.refl F w).set (b := b) (o := 3) (.inl hbF) (.int .i64 (k.toNat : Int))).set (b := b) (o := 4) (.inl hbF) (.int .u64 (keep : Int)))
  have HF := Lib.hid hF
  clear h hF
  have fin : ∀ w', w' = (w.setCell ⟨b, 3, none⟩ (.int .i64 (k.toNat : Int))).setCell ⟨b, 4, none⟩ (.int .u64 (keep : Int)) → Goes F w w' (RB w' b (cut s k keep)) := fun w' e => by
    subst e
    exact Goes.ref P1.out hbF (fun k hk => .inl (HF.out k (.inr (.inl hk)))) (fun k hk => .inl (HF.out k (.inr (.inr hk)))) K1.out
  have FIN := Lib.hid fin
  clear fin P1 K1
  by_cases h0 : 0 ≤ k
  · have e : (k.toNat : Int) = k := by omega
    rw [e] at FIN
    clear e
    go_enter Tryz.func35, Tryz.ntmps35
    go_wp2
    go_end0
    exact ⟨rfl, FIN.out _ rfl⟩
  · have e : (k.toNat : Int) = 0 := by omega
    rw [e] at FIN
    clear e
    go_enter Tryz.func35, Tryz.ntmps35
    go_wp2
    go_end0
    exact ⟨rfl, FIN.out _ rfl⟩

set_option maxRecDepth 100000 in
theorem rpower_any (b : Nat) (s : St) (F : Nat → Prop) (w : World) (h : RB w b s F) :
    Calls Tryz.prog 71 #[.pointer (some ⟨b, 0, none⟩)] w fun e w' => e = .returned (.tuple #[]) ∧ Goes F w w' (RB w' b (power s)) := by
  have hbF := h.mem
  obtain ⟨vi, vw, h, hF⟩ := h.v
  obtain ⟨-, -, c2, c3, -⟩ := h.cells
  have f2 := h.row.frozen 2
  have f3 := h.row.frozen 3
  have P1 := Lib.hid ((h.setGone false).setLeft 0)
  have K1 := Lib.hid (((Keeps.refl F w).set (b := b) (o := 2) (.inl hbF) (.bool false)).set (b := b) (o := 3) (.inl hbF) (.int .i64 ((0 : Nat) : Int)))
  have HF := Lib.hid hF
  have e : ((0 : Nat) : Int) = 0 := rfl
  rw [e] at P1 K1
  clear h hF e
  go_enter Tryz.func71, Tryz.ntmps71
  go_wp2
  go_end0
  exact ⟨rfl, Goes.ref P1.out hbF (fun k hk => .inl (HF.out k (.inr (.inl hk)))) (fun k hk => .inl (HF.out k (.inr (.inr hk)))) K1.out⟩
end Go.Proofs.YtmmpknfkncgjpaaGreatDoor

namespace Go.Proofs.YtmmpknfkncgjpaaGreatDoor
open Go.RowKit

set_option maxRecDepth 100000 in
set_option maxHeartbeats 2000000 in
theorem sync_any (b : Nat) (s : St) (F : Nat → Prop) (w : World) (h : PB w b s F) (hg : Good s) (hn : s.wait.length ≤ 1000) (hc : s.n ≤ 1000000) :
    Calls Tryz.prog 110 #[.pointer (some ⟨b, 0, none⟩)] w fun e w' => e = .returned (.int .i64 (syncE s)) ∧ Goes F w w' (PB w' b (syncS s)) := by
  have HP0 := Lib.hid h
  obtain ⟨L, K, v, h, hF⟩ := h.v
  obtain ⟨-, -, c2, -⟩ := h.cells
  clear h hF
  cases hgo : s.gone
  · rw [hgo] at c2
    have hgt : ¬ (s.gone = true) := by simp [hgo]
    have HC := Lib.hid (count_any b s F w HP0.out hg hgo hn hc)
    have HG := Lib.hid hg.count
    have HN := Lib.hid (Nat.le_trans (count_wait s) hn)
    by_cases h1 : s.left = 1
    · have e1 : syncE s = 70 := by unfold syncE; rw [if_pos (.inr h1)]
      have e2 : syncS s = count s := by unfold syncS; rw [if_neg hgt, if_pos h1]
      rw [e1, e2]
      rw [show countE s = 70 from if_pos h1] at HC
      clear h1 e1 e2 hgt hgo hg
      generalize count s = s2 at HC HG HN ⊢
      go_enter Tryz.func110, Tryz.ntmps110
      go_wp2_with (go_at_call 136; refine HC.out.mono ?_; rintro e w1 ⟨rfl, k1⟩; have K1 := Lib.hid k1; clear k1)
      go_ret
      exact ⟨rfl, K1.out⟩
    · have e1 : syncE s = 0 := by unfold syncE; rw [if_neg (fun e => by rcases e with e | e; (exact hgt e); (exact h1 e))]
      have e2 : syncS s = whole (count s) := by unfold syncS; rw [if_neg hgt, if_neg h1]
      rw [e1, e2]
      rw [show countE s = 0 from if_neg h1] at HC
      clear h1 e1 e2 hgt hgo hg
      generalize count s = s2 at HC HG HN ⊢
      go_enter Tryz.func110, Tryz.ntmps110
      go_wp2_with (first
        | (go_at_call 136; refine HC.out.mono ?_; rintro e w1 ⟨rfl, k1⟩; obtain ⟨F1, k1, k2, k3⟩ := k1; obtain ⟨L1, K1, v1, k1, k4⟩ := k1.v; have P1 := Lib.hid k1; have E1 := Lib.hid (And.intro k2 (And.intro k3 k4)); clear k1 k2 k3 k4)
        | (go_at_call 60; refine (settle_all b s2 L1 K1 v1 _ P1.out HG.out HN.out).mono ?_; rintro e w2 ⟨rfl, k1, k2⟩; have P2 := Lib.hid k1; have E2 := Lib.hid k2; clear k1 k2))
      go_ret
      exact ⟨rfl, Goes.trans E1.out.1 E1.out.2.1 (Goes.plate P2.out (E1.out.2.2 b (.inl rfl)) (fun k hk => by simp [Value.ownBlock] at hk) (E2.out.wider (fun k hk => by rw [hk]; exact E1.out.2.2 b (.inl rfl))))⟩
  · rw [hgo] at c2
    have e1 : syncE s = 70 := by unfold syncE; rw [if_pos (.inl hgo)]
    have e2 : syncS s = s := by unfold syncS; rw [if_pos hgo]
    rw [e1, e2]
    clear e1 e2 hgo
    go_enter Tryz.func110, Tryz.ntmps110
    go_wp2
    go_ret
    exact ⟨rfl, Goes.same HP0.out (Keeps.refl _ _)⟩
end Go.Proofs.YtmmpknfkncgjpaaGreatDoor

namespace Go.Proofs.YtmmpknfkncgjpaaGreatDoor
open Go.RowKit

/-- A text is copied to the head of a write's bytes. -/
theorem wpList_copy_str {ops : Array Oper} {rest : List Oper} {o : Oper} {a : Act} {w : World} {Q : Exit → Act → World → Prop} (hgd : o.guard = none) (d e : Operand)
    (ho : o.op = .call { callee := .builtin .copy, args := #[d, e], argTypes := #[73, 9] })
    (D : Nat) (i : Nat) (s : ByteArray) (hD : WB w D ⟨i, zeros 32⟩) (hd : a.eval d = .slice (some ⟨D, 1, none⟩) 32 32) (he : a.eval e = .string s) (hs : s.size ≤ 32)
    (h : ∀ wF, WB wF D ⟨i, pad s⟩ → Below D w wF → wpList Tryz.prog ops Q rest (a.put o.dst (goInt s.size)) wF) : wpList Tryz.prog ops Q (o :: rest) a w := by
  refine wpList_plain hgd fun K hK => ?_
  have hl : s.data.toList.length = s.size := by show s.data.toList.length = s.data.size; simp
  have hz : (Lib.byteCells (zeros 32)).length = 32 := by rw [Lib.byteCells_length]; simp [zeros]
  have hrun := Lib.run_copy_row_string (P := Tryz.prog) w 73 9 o.type 5 D 1 32 32 s _ _ Tryz.underlying73 info5 hD hs (by simp [wcells, hz]; omega)
  have hrow : ((wcells ⟨i, zeros 32⟩).toArray.toList.take 1 ++ Lib.byteCells s.data.toList ++ (wcells ⟨i, zeros 32⟩).toArray.toList.drop (1 + s.size)).toArray = (wcells ⟨i, pad s⟩).toArray := by
    have e1 : (wcells ⟨i, zeros 32⟩).take 1 = [.int .i64 (i : Int)] := rfl
    have e2 : (wcells ⟨i, zeros 32⟩).drop (1 + s.size) = Lib.byteCells (zeros (32 - s.size)) := by
      rw [show 1 + s.size = s.size + 1 by omega]
      show (Lib.byteCells (zeros 32)).drop s.size = _
      unfold Lib.byteCells zeros
      rw [← List.map_drop, List.drop_replicate]
    rw [List.toList_toArray, e1, e2]
    unfold wcells pad Lib.byteCells
    rw [List.map_append]
    rfl
  rw [hrow] at hrun
  unfold Oper.wp
  simp [execOp, ho, resolve, invoke, builtin, hd, he, hrun, Result.andThen]
  exact hK _ _ (h _ (setRow_heap w D (wcells ⟨i, zeros 32⟩).toArray (wcells ⟨i, pad s⟩).toArray _ _ hD) (below_setRow (Below.refl D w) (Nat.le_refl D) _))

theorem built61 (i : Nat) : Tryz.prog.built 167 [(0, .int .i64 (i : Int))] = some (wcells ⟨i, zeros 32⟩).toArray := by kernel_rfl
theorem wpList_build_wr {ops : Array Oper} {rest : List Oper} {o : Oper} {a : Act} {w : World} {Q : Exit → Act → World → Prop} (hgd : o.guard = none) (x : Operand) (ho : o.op = .build 167 #[(0, x)])
    (i : Nat) (hx : a.eval x = .int .i64 (i : Int)) (h : wpList Tryz.prog ops Q rest (a.put o.dst (.agg (wcells ⟨i, zeros 32⟩).toArray)) w) : wpList Tryz.prog ops Q (o :: rest) a w :=
  wpList_buildTo hgd _ _ ho o.dst rfl _ (by simp only [List.map_toArray, List.map_cons, List.map_nil, hx]; exact built61 i) h
theorem wpList_alloc_wr {ops : Array Oper} {rest : List Oper} {o : Oper} {a : Act} {w : World} {Q : Exit → Act → World → Prop} (hgd : o.guard = none) (ho : o.op = .alloc 167)
    (h : wpList Tryz.prog ops Q rest (a.put o.dst (.pointer (some ⟨w.heap.size, 0, none⟩))) (w.alloc (.cells (wcells ⟨0, zeros 32⟩).toArray 167))) : wpList Tryz.prog ops Q (o :: rest) a w := by
  refine wpList_plain hgd fun K hK => ?_
  have hz : (zeroValue 167).run Tryz.prog w = .ok (.agg (wcells ⟨0, zeros 32⟩).toArray) w := by
    obtain ⟨i0, hi0, hz0, hz1, hz2⟩ := info_parts info61'
    simp [zeroValue, typeInfo, hi0, hz0]
  unfold Oper.wp
  simp only [execOp, ho, Instr.alloc, Sem.run_bind, hz, Result.andThen_ok, newVar]
  simp [Result.andThen, Value.cells]
  exact hK _ _ h

theorem run_build61 (c : Wr) (hc : c.b.length = 32) (W : World) : (Instr.buildSlice 82 1 #[(0, .agg (wcells c).toArray)]).run Tryz.prog W = .ok (.slice (some ⟨W.heap.size, 0, none⟩) 1 1) (W.alloc (.cells (wcells c).toArray 167)) := by
  obtain ⟨i0, hi0, hz0, hz1, hz2⟩ := info_parts info61'
  refine run_buildSlice W _ 167 1 _ _ i0 _ Tryz.underlying82 hi0 hz0 (by rw [hz1]; omega) (by rw [hz1]; omega) ?_
  rw [hz1]
  have hl := wcells_length hc
  have := Great.fill_whole (s := 33) (by omega) [.agg (wcells c).toArray] ((Array.range (1 * 33)).map ((Value.agg (wcells ⟨0, zeros 32⟩).toArray).cells[· % (Value.agg (wcells ⟨0, zeros 32⟩).toArray).cells.size]!)) (fun v hv => by simp at hv; subst hv; simp [Value.cells, hl]) (by simp)
  simpa [Value.cells] using this

/-- A write lies whole where v points to. -/
def okL (w : World) (v : Value) : Prop := ∃ D c, c.b.length = 32 ∧ v = .pointer (some ⟨D, 0, none⟩) ∧ WB w D c
def valL (w : World) (v : Value) : Value := match v with
  | .pointer (some a) => match w.heap[a.block]? with
    | some (.cells cs _ _) => .agg cs
    | _ => undef
  | _ => undef
theorem okL_of {w : World} {D : Nat} {c : Wr} (h : WB w D c) (hc : c.b.length = 32) : okL w (.pointer (some ⟨D, 0, none⟩)) := ⟨D, c, hc, rfl, h⟩
theorem valL_of {w : World} {D : Nat} {c : Wr} (h : WB w D c) : valL w (.pointer (some ⟨D, 0, none⟩)) = .agg (wcells c).toArray := by
  unfold valL; simp only [show w.heap[D]? = _ from h]
theorem wp_loadL {d : Option Tmp} {x : Operand} {ty : TypeId} {pos : String} {after : Array Edge} {g : Option (Nat × Bool)} {a : Act} {w : World} {K : Act → World → Prop} {Q : Exit → Act → World → Prop} (h : okL w (a.eval x)) :
    Oper.wp Tryz.prog { dst := d, op := .load 167 x, type := ty, pos := pos, after := after, guard := g } a w K Q = K (a.put d (valL w (a.eval x))) w := by
  obtain ⟨D, c, hc, hx, hw⟩ := h
  rw [hx, valL_of hw]
  have hl := run_loadVar_mid (P := Tryz.prog) w D 0 167 (wcells c) _ hw.range Tryz.underlying167 rfl (by rw [info61, wcells_length hc])
  unfold Oper.wp execOp
  simp only [hx, Instr.loadAt, Instr.sureAddr, Sem.run_bind, Sem.run_pure, Result.andThen_ok, hl]
  rfl

def okB (v : Value) : Prop := ∃ c : Wr, c.b.length = 32 ∧ v = .agg (wcells c).toArray
theorem wp_buildL {d : Option Tmp} {x : Operand} {ty : TypeId} {pos : String} {after : Array Edge} {g : Option (Nat × Bool)} {a : Act} {w : World} {K : Act → World → Prop} {Q : Exit → Act → World → Prop} (h : okB (a.eval x)) :
    Oper.wp Tryz.prog { dst := d, op := .buildSlice 82 1 #[(0, x)], type := ty, pos := pos, after := after, guard := g } a w K Q = K (a.put d (.slice (some ⟨w.heap.size, 0, none⟩) 1 1)) (w.alloc (.cells (a.eval x).cells 167)) := by
  obtain ⟨c, hc, hx⟩ := h
  have hr := run_build61 c hc w
  unfold Oper.wp execOp
  simp only [List.map_toArray, List.map_cons, List.map_nil, hx, Sem.run_bind, Sem.run_pure, Result.andThen_ok, hr]
  rfl

attribute [local go_sem ↓] Go.wp_at_zero Go.wp_at_succ wp_loadL wp_buildL

/-- What waits is another row, the old one gone or not. -/
theorem PBv.putWaits {w : World} {b : Nat} {s : St} {L K : Nat} {v u : Value} {ws : List Wr} (hr : w.rowIs b 86 4102 (pf s L K v)) (lf : s.gone = false → L = s.left ∧ (s.left ≠ 0 → K = s.keep)) (lt : L < 9223372036854775808) (kt : K < 18446744073709551616)
    (ho : w.ownsRow 0 167 33 u ws.length (flat ws)) : PBv (w.setCell ⟨b, 4097, none⟩ u) b { s with wait := ws } L K u :=
  ⟨(hr.set 4097 u).congr fun o _ => pf_waits s ws L K v u o, owns_kept ho fun g hg => Below.heap_setCell _ _ _ _ (fun e => owns_ne ho hr (by decide) (by rw [hg]; exact congrArg some e)), lf, lt, kt⟩

set_option maxRecDepth 100000 in
set_option maxHeartbeats 4000000 in
theorem write_yes (b : Nat) (s : St) (F : Nat → Prop) (i : Nat) (t : ByteArray) (w : World) (h : PB w b s F) (hg : Good s) (hi : wrong s (i : Int) = 0) (ht : t.size ≤ 32) (hn : s.wait.length ≤ 900) (hc : s.n ≤ 1000000) :
    Calls Tryz.prog 109 #[.pointer (some ⟨b, 0, none⟩), .int .i64 (i : Int), .string t] w fun e w' => e = .returned (.int .i64 (countE s)) ∧ Goes F w w' (PB w' b (count (add s i t))) := by
  have HR := Lib.hid (reach_any b s F i w h)
  rw [hi] at HR
  have hbF := h.mem
  have hbl := h.lt b hbF
  have HGA := Lib.hid (hg.add hi ht)
  have hgo := (wrong_zero hi).1
  obtain ⟨L, K, v, h, hF⟩ := h.v
  have HP := Lib.hid h
  have HF := Lib.hid hF
  have HGO := Lib.hid hgo
  have htI : ¬ ((32 : Int) < (t.size : Int)) := by omega
  have hadd : add s (i : Int) t = { s with wait := s.wait ++ [⟨i, pad t⟩] } := by unfold add; rw [Int.toNat_natCast]
  rw [hadd] at HGA ⊢
  clear h hF hi hg hgo hadd
  go_enter Tryz.func109, Tryz.ntmps109
  go_wp2_with (first
    | (go_at_call 135; refine HR.out.mono ?_; rintro e w1 ⟨rfl, rfl⟩)
    | (with_reducible show wpList _ _ _ (Oper.mk _ (Op.build 167 _) _ _ _ _ :: _) _ _; refine wpList_build_wr rfl (.tmp 18) rfl i rfl ?_)
    | (with_reducible show wpList _ _ _ (Oper.mk _ (Op.alloc 167) _ _ _ _ :: _) _ _; refine wpList_alloc_wr rfl rfl ?_)
    | (with_reducible show wpList _ _ _ (Oper.mk none (Op.store 167 _ _) _ _ _ _ :: _) _ _; refine wpList_store_wr rfl (.tmp 8) (.tmp 19) rfl w.heap.size ⟨i, zeros 32⟩ (by simp [zeros]) _ rfl rfl (heap_alloc_new w _) (by simp [wcells_length, zeros]) ?_; intro wF hWB hBF; have WB1 := Lib.hid hWB; have BF1 := Lib.hid hBF; clear hWB hBF)
    | (with_reducible show wpList _ _ _ (Oper.mk (some 23) _ _ _ _ _ :: _) _ _; refine wpList_copy_str rfl (.tmp 21) (.tmp 22) rfl w.heap.size i t WB1.out rfl rfl ht ?_; intro wG hWB hBF; have WB2 := Lib.hid hWB; have BF2 := Lib.hid hBF; clear hWB hBF))
  have hsz : (w.alloc (.cells (wcells ⟨0, zeros 32⟩).toArray 167)).heap.size = w.heap.size + 1 := by simp
  have hzl : w.heap.size < wG.heap.size := by have h1 := BF1.out.size; have h2 := BF2.out.size; omega
  have hb0 : Below w.heap.size w wG.drew := ((((Below.refl _ w).alloc (Nat.le_refl _) _).trans BF1.out).trans BF2.out).drew
  have hb1 : Below w.heap.size w (wG.drew.alloc (.cells (wcells ⟨i, pad t⟩).toArray 167)) := hb0.alloc (by show w.heap.size ≤ wG.heap.size; omega) _
  have hcl : (pad t).length = 32 := pad_length ht
  have P0 := Lib.hid (HP.out.below hb0)
  have P1 := Lib.hid (HP.out.below hb1)
  have R0 := Lib.hid (show wG.drew.rangeAt w.heap.size 0 (wcells ⟨i, pad t⟩) from WB2.out.range)
  have R1 := Lib.hid (show (wG.drew.alloc (.cells (wcells ⟨i, pad t⟩).toArray 167)).rangeAt w.heap.size 0 (wcells ⟨i, pad t⟩) from World.rangeAt_alloc R0.out _)
  have hc0 := P0.out.cells.2.1
  have hc1 : (wG.alloc (.cells (wcells ⟨i, pad t⟩).toArray 167)).cell? ⟨b, 4097, none⟩ = some v := P1.out.cells.2.1
  have HN := Lib.hid (show ∀ j u, (flat [⟨i, pad t⟩])[j]? = some u → (wG.drew.alloc (.cells (wcells ⟨i, pad t⟩).toArray 167)).cell? ((⟨wG.heap.size, 0, none⟩ : Addr).add j) = some u from fun j u hu =>
    World.news_of_block (cs := (wcells ⟨i, pad t⟩).toArray) (t := 167) (fr := (0, 0)) (heap_alloc_new wG.drew _) j u (by simpa [flat_one] using hu))
  have hbs : okB (.agg (wcells ⟨i, pad t⟩).toArray) := ⟨_, hcl, rfl⟩
  have ok0 := okL_of (w := wG.drew) WB2.out hcl
  have va0 := valL_of (w := wG.drew) WB2.out
  obtain ⟨i0, hi0, hz0, hz1, hz2⟩ := info_parts info61'
  have HI := Lib.hid (And.intro hi0 (And.intro hz0 (And.intro hz1 hz2)))
  have B1 := Lib.hid hb1
  have CL := Lib.hid hcl
  have HNE := Lib.hid P1.out.ne
  clear hsz hb0 hb1 hcl hi0 hz0 hz1 hz2 R0 R1
  go_region_law
    ((refine step_append_lies _ (by rfl) (.tmp 28) (.tmp 30) 82 (by rfl) 0 167 i0 _ 33 40 Tryz.underlying82 HI.out.1 HI.out.2.1 HI.out.2.2.1 HI.out.2.2.2 (by simp [Value.cells, wcells_length, zeros]) (by omega) v s.wait.length (flat s.wait) (by rfl) P1.out.own
          ⟨wG.heap.size, 0, none⟩ 1 1 (flat [⟨i, pad t⟩]) (by rfl) (by rw [flat_one, wcells_length CL.out]) HN.out (flat_oneCell _) (by omega) (by unfold maxLen; omega) (by omega) (by simp) (wG.heap.size + 1) (by simp) ?_; intro g cap w2 hown2 hgrow hat hlt; (have hf2 : w2.frozen? ⟨b, 4097, none⟩ = false := by rw [hgrow.frozen_far _ (by have := P1.out.row.lt; simpa using this) (Ne.symm HNE.out)]; exact P1.out.row.frozen 4097); (have hc2 : w2.cell? ⟨b, 4097, none⟩ = some v := by rw [hgrow.cell_far _ (by have := P1.out.row.lt; simpa using this) (Ne.symm HNE.out)]; exact P1.out.cells.2.1)))
  all_goals
    have hr2 := P1.out.row.of_block (hgrow.block b P1.out.row.lt (fun e => HNE.out e.symm))
    have P3 := Lib.hid (PBv.putWaits (ws := s.wait ++ [⟨i, pad t⟩]) hr2 P1.out.lf P1.out.lt P1.out.kt (by rw [flat_append]; simpa using hown2))
    have K3 := Lib.hid (((Keeps.of_below (F := F) B1.out).grown (w1 := wG.drew.alloc (.cells (wcells ⟨i, pad t⟩).toArray 167)) hgrow (fun k hk => .inl (HF.out k (.inr hk)))).set (b := b) (o := 4097) (.inl hbF) (.slice (some ⟨g, 0, none⟩) (s.wait.length + 1) cap))
    have HFG := Lib.hid (show ∀ k, (k = b ∨ (Value.slice (some ⟨g, 0, none⟩) (s.wait.length + 1) cap).ownBlock = some k) → F k ∨ w.heap.size ≤ k from fun k hk => by
      rcases hk with rfl | hk
      · exact .inl hbF
      · simp only [Value.ownBlock, Option.some.injEq] at hk
        subst hk
        rcases hat with hat | hat
        · exact .inl (HF.out _ (.inr hat))
        · exact .inr (by omega))
    have HC := Lib.hid (count_any b { s with wait := s.wait ++ [⟨i, pad t⟩] } _ _ P3.out.pb HGA.out HGO.out (by show (s.wait ++ [(⟨i, pad t⟩ : Wr)]).length ≤ 1000; simp; omega) hc)
    clear hown2 hgrow hat hlt hf2 hc2 hr2 P3 ok0 va0 hbs hc0 hc1 P0 P1 HN HI B1 CL HNE WB1 WB2 BF1 BF2
    go_wp2_with (go_at_call 136; refine HC.out.mono ?_; rintro e w3 ⟨rfl, k1⟩; have K4 := Lib.hid k1; clear k1)
    go_ret
    exact ⟨rfl, Goes.trans HFG.out K3.out K4.out⟩

set_option maxRecDepth 100000 in
set_option maxHeartbeats 2000000 in
theorem write_any (b : Nat) (s : St) (F : Nat → Prop) (i : Int) (t : ByteArray) (w : World) (h : PB w b s F) (hg : Good s) (hn : s.wait.length ≤ 900) (hc : s.n ≤ 1000000) (ht : t.size ≤ 9223372036854775807) :
    Calls Tryz.prog 109 #[.pointer (some ⟨b, 0, none⟩), .int .i64 i, .string t] w fun e w' => e = .returned (.int .i64 (writeE s i t)) ∧ Goes F w w' (PB w' b (writeS s i t)) := by
  by_cases hi : wrong s i = 0
  · by_cases h32 : t.size ≤ 32
    · have e1 : writeE s i t = countE s := by unfold writeE; rw [if_neg (by omega), if_neg (by omega)]
      have e2 : writeS s i t = count (add s i t) := by unfold writeS; rw [if_neg (by omega)]
      rw [e1, e2]
      have hi0 := (wrong_zero hi).2.1
      have := write_yes b s F i.toNat t w h hg (by rw [show (i.toNat : Int) = i by omega]; exact hi) h32 hn hc
      rw [show (i.toNat : Int) = i by omega] at this
      exact this
    · have e1 : writeE s i t = 11 := by unfold writeE; rw [if_neg (by omega), if_pos (by omega)]
      have e2 : writeS s i t = s := by unfold writeS; rw [if_pos (by omega)]
      rw [e1, e2]
      have HP := Lib.hid h
      have HR := Lib.hid (reach_any b s F i w h)
      rw [hi] at HR
      have htI : (32 : Int) < (t.size : Int) := by omega
      clear h hg hi e1 e2 h32
      go_enter Tryz.func109, Tryz.ntmps109
      go_wp2_with (go_at_call 135; refine HR.out.mono ?_; rintro e w1 ⟨rfl, rfl⟩)
      go_ret
      exact ⟨rfl, Goes.same HP.out (Keeps.refl _ _)⟩
  · have e1 : writeE s i t = wrong s i := by unfold writeE; rw [if_pos hi]
    have e2 : writeS s i t = s := by unfold writeS; rw [if_pos (.inl hi)]
    rw [e1, e2]
    have HP := Lib.hid h
    have HR := Lib.hid (reach_any b s F i w h)
    generalize wrong s i = x at HR hi ⊢
    have hx : (x == 0) = false := by simpa using hi
    clear h hg e1 e2
    go_enter Tryz.func109, Tryz.ntmps109
    go_wp2_with (go_at_call 135; refine HR.out.mono ?_; rintro e w1 ⟨rfl, rfl⟩)
    go_ret
    exact ⟨rfl, Goes.same HP.out (Keeps.refl _ _)⟩
end Go.Proofs.YtmmpknfkncgjpaaGreatDoor
