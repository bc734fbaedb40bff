/-
  settle (package plate), by a contract for each of the two that call it.

  Crash, count, Cut, Power and New (package plate), by contracts.

  New (package plate), by a contract: a plate's 4102 cells.
-/
import Derived.Test.YtmmpknfkncgjpaaGreatDoorM02
import Derived.Great.BuildSlice
namespace Go.Proofs.YtmmpknfkncgjpaaGreatDoor
open Go.RowKit

theorem pf_waits (s : St) (ws : List Wr) (L K : Nat) (v u : Value) (o : Nat) : (if o = 4097 then u else pf s L K v o) = pf { s with wait := ws } L K u o := by
  unfold pf
  by_cases h : o = 4097
  · subst h; simp
  · simp [h]
/-- What waits is another row. -/
theorem PBv.setWaits {w : World} {b : Nat} {s : St} {L K : Nat} {v u : Value} {ws : List Wr} (h : PBv w b s L K v) (ho : w.ownsRow 0 167 33 u ws.length (flat ws)) : PBv (w.setCell ⟨b, 4097, none⟩ u) b { s with wait := ws } L K u :=
  ⟨(h.row.set 4097 u).congr fun o _ => pf_waits s ws L K v u o, owns_kept ho fun g hg => Below.heap_setCell _ _ _ _ (fun e => owns_ne ho h.row (by decide) (by rw [hg]; exact congrArg some e)), h.lf, h.lt, h.kt⟩

set_option maxRecDepth 100000 in
set_option maxHeartbeats 2000000 in
theorem settle_all (b : Nat) (s : St) (L K : Nat) (v : Value) (w : World) (h : PBv w b s L K v) (hg : Good s) (hn : s.wait.length ≤ 1000) :
    Calls Tryz.prog 60 #[.pointer (some ⟨b, 0, none⟩), .func (.func 137) #[] #[]] w fun e w' => e = .returned (.tuple #[]) ∧ PBv w' b { s with is := done (fun _ => 32) s.wait s.is s.wait.length, wait := [] } L K (.slice none 0 0) ∧ Keeps (fun k => k = b) w w' := by
  obtain ⟨-, c1, -⟩ := h.cells
  have hhi := hg.hi
  have hform := owns_form (f := wcells) h.own (fun x hx => wcells_length (hg.wt x hx).2)
  have hbl := h.row.lt
  have HG := Lib.hid hg
  have H0 := Lib.hid h
  have HN := Lib.hid h.ne
  clear h hg
  rcases hform with ⟨rfl, h0⟩ | ⟨g, cap, rfl, hgl, hcap, hcm, hat⟩
  · have H1 := Lib.hid h0
    have f0 := H0.out.row.frozen 4097
    clear h0
    go_enter Tryz.func60, Tryz.ntmps60
    go_wp2
    go_loopw [11] (fun jv wr => jv = .int .i64 0 ∧ wr = w) (fun _ _ => 0)
    case atStart => exact ⟨rfl, rfl⟩
    case round =>
      obtain ⟨rfl, rfl⟩ := hrel
      go_wp2
      go_end0
      refine ⟨rfl, ?_, (Keeps.refl (fun k => k = b) _).set (b := b) (.inl rfl) _⟩
      have e : ({ s with is := done (fun _ => 32) s.wait s.is s.wait.length, wait := [] } : St) = { s with wait := [] } := by rw [H1.out]; rfl
      rw [e]
      exact H0.out.setWaits (World.ownsRow_nil _ _ _ _)
  · have HAT := Lib.hid hat
    have HGL := Lib.hid hgl
    clear hat hgl
    unfold maxLen at hcm
    go_enter Tryz.func60, Tryz.ntmps60
    go_wp2
    go_loopw [11] (fun jv wr => ∃ j : Nat, j ≤ s.wait.length ∧ jv = .int .i64 j ∧ PBv wr b (at' s (fun _ => 32) j) L K (.slice (some ⟨g, 0, none⟩) s.wait.length cap) ∧ Keeps (fun k => k = b) w wr) (fun jv _ => s.wait.length - (intOf jv).toNat)
    case atStart => exact ⟨0, Nat.zero_le _, rfl, H0.out, Keeps.refl _ _⟩
    case round =>
      obtain ⟨j, hj, rfl, hP, hK⟩ := hrel
      have P1 := Lib.hid hP
      have K1 := Lib.hid hK
      clear hP hK H0 c1
      by_cases hlt : j < s.wait.length
      · obtain ⟨x, hx⟩ : ∃ x, s.wait[j]? = some x := ⟨_, List.getElem?_eq_getElem hlt⟩
        obtain ⟨hxi, hx32⟩ := HG.out.wt x (List.mem_of_getElem? hx)
        have hr := HAT.out j x hx
        have hgb : g ≠ b := fun e => HN.out (by subst e; rfl)
        have HR := Lib.hid (show wr.rangeAt g (j * 33) (wcells x) from fun q u hu => K1.out.cell (hr q u hu) hgb)
        have H32 := Lib.hid hx32
        have hlI : (j : Int) < (s.wait.length : Int) := by omega
        have hj0 : (0 : Int) ≤ (j : Int) := by omega
        have HX := Lib.hid hx
        clear hr hx hx32 hgb
        go_wp2_with (first
          | (with_reducible show wpList _ _ _ (Oper.mk _ (Op.load 167 _) _ _ _ _ :: _) _ _; refine wpList_load_mid rfl 167 (.tmp 14) rfl g (j * 33) rfl (wcells x) _ HR.out Tryz.underlying167 rfl (by rw [info61, wcells_length H32.out]) ?_)
          | (with_reducible show wpList _ _ _ (Oper.mk none (Op.store 167 _ _) _ _ _ _ :: _) _ _; refine wpList_store_wr rfl (.tmp 5) (.tmp 15) rfl wr.heap.size x H32.out _ rfl rfl (heap_alloc_new wr _) rfl ?_; intro wF hWB hBF))
        have hb1 : Below wr.heap.size wr wF := ((Below.refl _ wr).alloc (Nat.le_refl _) _).trans hBF
        have hb2 : Below wr.heap.size wr wF.drew := hb1.drew
        have PD := Lib.hid (P1.out.below hb2)
        have KD := Lib.hid (K1.out.then_below hb2)
        have WD := Lib.hid (show WB wF.drew wr.heap.size x from hWB)
        have hc0 := WD.out.at0
        have hx0 : (0 : Int) ≤ (x.i : Int) := by omega
        have hx1 : (x.i : Int) < 128 := by omega
        have hzb : ¬ wr.heap.size = b := by have := K1.out.size; omega
        skip
        clear hb1 hb2 hBF hWB
        go_region_held3 (fun w' => w'.cell? ⟨wr.heap.size, 0, none⟩ = some (.int .i64 x.i)) (first | assumption | fail)
          (first
            | (go_at_call 137; refine (all_any _ _).mono ?_; rintro e w1 ⟨rfl, rfl⟩)
            | (refine step_settle rfl (.tmp 25) (.tmp 27) (by rfl) b s (fun _ => 32) j L K _ PD.out HG.out x HX.out (by omega) wr.heap.size WD.out (by rfl) (by rfl) ?_; intro w2 hp hk; have hc2 := hk.cell hc0 hzb; have P2 := Lib.hid hp; have K2 := Lib.hid (KD.out.trans hk (fun _ h => .inl h)); clear hp hk)
            | fail)
        go_wp2
        go_roundw
        case rel => exact ⟨j + 1, by omega, by go_num, P2.out, K2.out⟩
        case measure => simp [intOf]; omega
      · obtain rfl : j = s.wait.length := by omega
        have hlI : ¬ ((s.wait.length : Int) < (s.wait.length : Int)) := by omega
        have f0 := P1.out.row.frozen 4097
        have c1 := P1.out.cells.2.1
        go_wp2
        go_end0
        exact ⟨rfl, P1.out.setWaits (World.ownsRow_nil _ _ _ _), K1.out.set (.inl rfl) _⟩

set_option maxRecDepth 100000 in
set_option maxHeartbeats 2000000 in
theorem settle_torn (b : Nat) (s : St) (L K : Nat) (v : Value) (C keep : Nat) (w : World) (h : PBv w b s L K v) (hg : Good s) (hn : s.wait.length ≤ 1000) (HC : Hid (w.cell? ⟨C, 0, none⟩ = some (.int .u64 keep))) (HCb : Hid (C ≠ b)) (hkp : keep < 18446744073709551616) :
    Calls Tryz.prog 60 #[.pointer (some ⟨b, 0, none⟩), .func (.func 61) #[] #[.pointer (some ⟨C, 0, none⟩)]] w fun e w' => e = .returned (.tuple #[]) ∧ PBv w' b { s with is := done (part keep) s.wait s.is s.wait.length, wait := [] } L K (.slice none 0 0) ∧ Keeps (fun k => k = b) w w' := by
  obtain ⟨-, c1, -⟩ := h.cells
  have hhi := hg.hi
  have hform := owns_form (f := wcells) h.own (fun x hx => wcells_length (hg.wt x hx).2)
  have hbl := h.row.lt
  have HG := Lib.hid hg
  have H0 := Lib.hid h
  have HN := Lib.hid h.ne
  clear h hg
  rcases hform with ⟨rfl, h0⟩ | ⟨g, cap, rfl, hgl, hcap, hcm, hat⟩
  · have H1 := Lib.hid h0
    have f0 := H0.out.row.frozen 4097
    clear h0
    go_enter Tryz.func60, Tryz.ntmps60
    go_wp2
    go_loopw [11] (fun jv wr => jv = .int .i64 0 ∧ wr = w) (fun _ _ => 0)
    case atStart => exact ⟨rfl, rfl⟩
    case round =>
      obtain ⟨rfl, rfl⟩ := hrel
      go_wp2
      go_end0
      refine ⟨rfl, ?_, (Keeps.refl (fun k => k = b) _).set (b := b) (.inl rfl) _⟩
      have e : ({ s with is := done (part keep) s.wait s.is s.wait.length, wait := [] } : St) = { s with wait := [] } := by rw [H1.out]; rfl
      rw [e]
      exact H0.out.setWaits (World.ownsRow_nil _ _ _ _)
  · have HAT := Lib.hid hat
    have HGL := Lib.hid hgl
    clear hat hgl
    unfold maxLen at hcm
    go_enter Tryz.func60, Tryz.ntmps60
    go_wp2
    go_loopw [11] (fun jv wr => ∃ j : Nat, j ≤ s.wait.length ∧ jv = .int .i64 j ∧ PBv wr b (at' s (part keep) j) L K (.slice (some ⟨g, 0, none⟩) s.wait.length cap) ∧ Keeps (fun k => k = b) w wr) (fun jv _ => s.wait.length - (intOf jv).toNat)
    case atStart => exact ⟨0, Nat.zero_le _, rfl, H0.out, Keeps.refl _ _⟩
    case round =>
      obtain ⟨j, hj, rfl, hP, hK⟩ := hrel
      have P1 := Lib.hid hP
      have K1 := Lib.hid hK
      clear hP hK H0 c1
      by_cases hlt : j < s.wait.length
      · obtain ⟨x, hx⟩ : ∃ x, s.wait[j]? = some x := ⟨_, List.getElem?_eq_getElem hlt⟩
        obtain ⟨hxi, hx32⟩ := HG.out.wt x (List.mem_of_getElem? hx)
        have hr := HAT.out j x hx
        have hgb : g ≠ b := fun e => HN.out (by subst e; rfl)
        have HR := Lib.hid (show wr.rangeAt g (j * 33) (wcells x) from fun q u hu => K1.out.cell (hr q u hu) hgb)
        have H32 := Lib.hid hx32
        have hlI : (j : Int) < (s.wait.length : Int) := by omega
        have hj0 : (0 : Int) ≤ (j : Int) := by omega
        have HX := Lib.hid hx
        clear hr hx hx32 hgb
        go_wp2_with (first
          | (with_reducible show wpList _ _ _ (Oper.mk _ (Op.load 167 _) _ _ _ _ :: _) _ _; refine wpList_load_mid rfl 167 (.tmp 14) rfl g (j * 33) rfl (wcells x) _ HR.out Tryz.underlying167 rfl (by rw [info61, wcells_length H32.out]) ?_)
          | (with_reducible show wpList _ _ _ (Oper.mk none (Op.store 167 _ _) _ _ _ _ :: _) _ _; refine wpList_store_wr rfl (.tmp 5) (.tmp 15) rfl wr.heap.size x H32.out _ rfl rfl (heap_alloc_new wr _) rfl ?_; intro wF hWB hBF))
        have hb1 : Below wr.heap.size wr wF := ((Below.refl _ wr).alloc (Nat.le_refl _) _).trans hBF
        have hb2 : Below wr.heap.size wr wF.drew := hb1.drew
        have PD := Lib.hid (P1.out.below hb2)
        have KD := Lib.hid (K1.out.then_below hb2)
        have WD := Lib.hid (show WB wF.drew wr.heap.size x from hWB)
        have hc0 := WD.out.at0
        have hx0 : (0 : Int) ≤ (x.i : Int) := by omega
        have hx1 : (x.i : Int) < 128 := by omega
        have hzb : ¬ wr.heap.size = b := by have := K1.out.size; omega
        have hpl := part_le keep j
        have hp0 : (0 : Int) ≤ (part keep j : Int) := by omega
        have hp1 : (part keep j : Int) ≤ 32 := by omega
        have HT := Lib.hid (torn_any C keep j wF.drew (by have h1 := K1.out.cell HC.out (fun e => HCb.out e); exact (hb2.cell (p := ⟨C, 0, none⟩) (World.block_lt_of_cell? _ _ h1)).trans h1) hkp (by omega))
        have HPL := Lib.hid hpl
        clear hpl
        clear hb1 hb2 hBF hWB
        go_region_held3 (fun w' => w'.cell? ⟨wr.heap.size, 0, none⟩ = some (.int .i64 x.i)) (first | assumption | fail)
          (first
            | (go_at_call 61; refine HT.out.mono ?_; rintro e w1 ⟨rfl, rfl⟩)
            | (refine step_settle rfl (.tmp 25) (.tmp 27) (by rfl) b s (part keep) j L K _ PD.out HG.out x HX.out HPL.out wr.heap.size WD.out (by rfl) (by rfl) ?_; intro w2 hp hk; have hc2 := hk.cell hc0 hzb; have P2 := Lib.hid hp; have K2 := Lib.hid (KD.out.trans hk (fun _ h => .inl h)); clear hp hk)
            | fail)
        go_wp2
        go_roundw
        case rel => exact ⟨j + 1, by omega, by go_num, P2.out, K2.out⟩
        case measure => simp [intOf]; omega
      · obtain rfl : j = s.wait.length := by omega
        have hlI : ¬ ((s.wait.length : Int) < (s.wait.length : Int)) := by omega
        have f0 := P1.out.row.frozen 4097
        have c1 := P1.out.cells.2.1
        go_wp2
        go_end0
        exact ⟨rfl, P1.out.setWaits (World.ownsRow_nil _ _ _ _), K1.out.set (.inl rfl) _⟩
end Go.Proofs.YtmmpknfkncgjpaaGreatDoor

namespace Go.Proofs.YtmmpknfkncgjpaaGreatDoor
open Go.RowKit

theorem PBv.pb {w : World} {b : Nat} {s : St} {L K : Nat} {v : Value} (h : PBv w b s L K v) : PB w b s (fun k => k = b ∨ v.ownBlock = some k) := ⟨L, K, v, h, fun _ => Iff.rfl⟩
/-- One of the plate's own cells is stored. -/
theorem PBv.set {w : World} {b : Nat} {s s' : St} {L K L' K' : Nat} {v : Value} (h : PBv w b s L K v) (i : Nat) (x : Value) (hw : s'.wait = s.wait) (he : ∀ o, (if o = i then x else pf s L K v o) = pf s' L' K' v o)
    (lf : s'.gone = false → L' = s'.left ∧ (s'.left ≠ 0 → K' = s'.keep)) (lt : L' < 9223372036854775808) (kt : K' < 18446744073709551616) : PBv (w.setCell ⟨b, i, none⟩ x) b s' L' K' v :=
  ⟨(h.row.set i x).congr fun o _ => he o, by rw [hw]; exact owns_kept h.own fun g hg => Below.heap_setCell _ _ _ _ (fun e => h.ne (by rw [hg]; exact congrArg some e)), lf, lt, kt⟩
theorem PBv.same {w : World} {b : Nat} {s s' : St} {L K : Nat} {v : Value} (h : PBv w b s L K v) (h1 : s'.is = s.is) (hw : s'.wait = s.wait) (hg : s'.gone = s.gone) (hn : s'.n = s.n)
    (lf : s'.gone = false → L = s'.left ∧ (s'.left ≠ 0 → K = s'.keep)) : PBv w b s' L K v :=
  ⟨h.row.congr fun o _ => by unfold pf; rw [h1, hg, hn], by rw [hw]; exact h.own, lf, h.lt, h.kt⟩
theorem PBv.setDead {w : World} {b : Nat} {s : St} {L K : Nat} {v : Value} (h : PBv w b s L K v) : PBv (w.setCell ⟨b, 4098, none⟩ (.bool true)) b { s with gone := true } L K v :=
  h.set 4098 _ rfl (fun o => by unfold pf; by_cases e : o = 4098 <;> simp [e]) (fun e => by cases e) h.lt h.kt
theorem PBv.setN {w : World} {b : Nat} {s : St} {L K : Nat} {v : Value} (h : PBv w b s L K v) (n : Nat) : PBv (w.setCell ⟨b, 4099, none⟩ (.int .i64 (n : Int))) b { s with n := n } L K v :=
  h.set 4099 _ rfl (fun o => by unfold pf; by_cases e : o = 4099 <;> simp [e]) h.lf h.lt h.kt
theorem PBv.setLeft {w : World} {b : Nat} {s : St} {L K : Nat} {v : Value} (h : PBv w b s L K v) (l : Nat) (hl : l < 9223372036854775808) (hk : s.gone = false → l ≠ 0 → K = s.keep) : PBv (w.setCell ⟨b, 4100, none⟩ (.int .i64 (l : Int))) b { s with left := l } l K v :=
  h.set 4100 _ rfl (fun o => by unfold pf; by_cases e : o = 4100 <;> simp [e]) (fun e => ⟨rfl, fun e' => hk e e'⟩) hl h.kt
theorem PB.v {w : World} {b : Nat} {s : St} {F : Nat → Prop} (h : PB w b s F) : ∃ L K v, PBv w b s L K v ∧ ∀ k, k = b ∨ v.ownBlock = some k → F k := by
  obtain ⟨L, K, v, h1, h2⟩ := h; exact ⟨L, K, v, h1, fun k hk => (h2 k).2 hk⟩
/-- A plate that goes on in the blocks that it had. -/
theorem Goes.plate {F : Nat → Prop} {w w' : World} {b : Nat} {s : St} {L K : Nat} {v : Value} (h : PBv w' b s L K v) (hb : F b) (hv : ∀ k, v.ownBlock = some k → F k ∨ w.heap.size ≤ k) (hk : Keeps F w w') : Goes F w w' (PB w' b s) :=
  ⟨_, h.pb, fun k hk => by rcases hk with rfl | hk; (exact .inl hb); (exact hv k hk), hk⟩
theorem Keeps.wider {F G : Nat → Prop} {w w' : World} (h : Keeps F w w') (hF : ∀ k, F k → G k) : Keeps G w w' := ⟨h.os, h.tape, h.output, h.size, fun k hk hn => h.block k hk (fun e => hn (hF k e))⟩

set_option maxRecDepth 100000 in
set_option maxHeartbeats 2000000 in
theorem crash_any (b : Nat) (s : St) (F : Nat → Prop) (keep : Nat) (w : World) (h : PB w b s F) (hg : Good s) (hn : s.wait.length ≤ 1000) (hk : keep < 18446744073709551616) :
    Calls Tryz.prog 25 #[.pointer (some ⟨b, 0, none⟩), .int .u64 keep] w fun e w' => e = .returned (.tuple #[]) ∧ Goes F w w' (PB w' b (crash s keep)) := by
  have hbF := h.mem
  have hbl := h.lt b hbF
  have hba : Below w.heap.size w (w.alloc (.cells #[.int .u64 keep] 32)) := (Below.refl _ _).alloc (Nat.le_refl _) _
  have HP0 := Lib.hid (h.below hba)
  obtain ⟨L, K, v, h, hF⟩ := h.v
  have h1 := h.below hba
  obtain ⟨-, -, c2, -⟩ := h1.cells
  have HB := Lib.hid hba
  have HP := Lib.hid h1
  have HG := Lib.hid hg
  cases hgo : s.gone
  · have e1 : crash s keep = { { { s with gone := true } with is := done (part keep) s.wait s.is s.wait.length, wait := [] } with left := 0 } := by unfold crash; rw [if_neg (by simp [hgo])]
    rw [e1]
    rw [hgo] at c2
    have f2 := h1.row.frozen 4098
    have hsz : (w.setCell ⟨b, 4098, none⟩ (.bool true)).heap.size = w.heap.size := by simp [World.setCell]
    have hbb : Below (w.setCell ⟨b, 4098, none⟩ (.bool true)).heap.size (w.setCell ⟨b, 4098, none⟩ (.bool true)) ((w.setCell ⟨b, 4098, none⟩ (.bool true)).alloc (.cells #[.int .u64 keep] 32)) := (Below.refl _ _).alloc (Nat.le_refl _) _
    have P2 := Lib.hid (h.setDead.below hbb)
    have HC := Lib.hid (show ((w.setCell ⟨b, 4098, none⟩ (.bool true)).alloc (.cells #[.int .u64 keep] 32)).cell? ⟨w.heap.size, 0, none⟩ = some (.int .u64 keep) from by
      rw [← hsz, cell_of_row _ _ _ _ _ _ (heap_alloc_new _ _)]; rfl)
    have HS := Lib.hid (settle_torn b { s with gone := true } L K v w.heap.size keep _ P2.out ⟨hg.sec, hg.wt, hg.lo, hg.hi, hg.lf, hg.kp⟩ hn HC (Lib.hid (by omega)) hk)
    have K0 := Lib.hid ((((Keeps.refl F w).set (b := b) (o := 4098) (.inl hbF) (.bool true))).then_below hbb)
    clear h h1 hba hg e1 hsz hbb
    go_enter Tryz.func25, Tryz.ntmps25
    go_wp2_with (go_at_call 60; refine HS.out.mono ?_; rintro e w1 ⟨rfl, k1, k2⟩; have K1 := Lib.hid k1; have K2 := Lib.hid k2; clear k1 k2)
    go_end0
    refine ⟨rfl, Goes.plate (K1.out.same rfl rfl rfl rfl (fun e => by cases e)) hbF (fun k hk => by simp [Value.ownBlock] at hk) ?_⟩
    exact K0.out.trans K2.out (fun k hk => .inl (by rw [hk]; exact hbF))
  · have e1 : crash s keep = s := by unfold crash; rw [if_pos hgo]
    rw [e1]
    rw [hgo] at c2
    clear h h1 hba hg e1
    go_enter Tryz.func25, Tryz.ntmps25
    go_wp2
    exact bodyPost_ret (results_none rfl _ _ _) rfl ⟨rfl, Goes.same HP0.out (Keeps.of_below HB.out)⟩

set_option maxRecDepth 100000 in
set_option maxHeartbeats 2000000 in
theorem count_any (b : Nat) (s : St) (F : Nat → Prop) (w : World) (h : PB w b s F) (hg : Good s) (hgo : s.gone = false) (hn : s.wait.length ≤ 1000) (hc : s.n ≤ 1000000) :
    Calls Tryz.prog 136 #[.pointer (some ⟨b, 0, none⟩)] w fun e w' => e = .returned (.int .i64 (countE s)) ∧ Goes F w w' (PB w' b (count s)) := by
  unfold countE
  have hbF := h.mem
  obtain ⟨L, K, v, h, hF⟩ := h.v
  obtain ⟨-, -, -, c3, c4, c5⟩ := h.cells
  have f3 := h.row.frozen 4099
  have f4 := h.row.frozen 4100
  obtain ⟨hL, hK⟩ := h.lf hgo
  have hlt := h.lt
  have P1 := Lib.hid (h.setN (s.n + 1))
  have K1 := Lib.hid ((Keeps.refl F w).set (b := b) (o := 4099) (.inl hbF) (.int .i64 ((s.n + 1 : Nat) : Int)))
  have hcast : ((s.n + 1 : Nat) : Int) = (s.n : Int) + 1 := by push_cast; rfl
  rw [hcast] at P1 K1
  subst hL
  clear hcast
  by_cases h0 : s.left = 0
  · have e1 : count s = { s with n := s.n + 1 } := by unfold count; rw [if_pos h0]
    rw [e1, if_neg (by omega)]
    rw [h0] at c4
    have HK := Lib.hid hF
    clear h hK e1 hF
    go_enter Tryz.func136, Tryz.ntmps136
    go_wp2
    go_ret
    exact ⟨rfl, Goes.plate P1.out hbF (fun k hk => .inl (HK.out k (.inr hk))) K1.out⟩
  · have hkk := hK h0
    by_cases h1 : s.left = 1
    · have e1 : count s = crash { { s with n := s.n + 1 } with left := 0 } s.keep := by unfold count; rw [if_neg h0, if_pos h1]
      rw [e1, if_pos h1]
      have P2 := Lib.hid (P1.out.setLeft 0 (by omega) (fun _ e => absurd rfl e))
      have K2 := Lib.hid (K1.out.set (b := b) (o := 4100) (.inl hbF) (.int .i64 ((0 : Nat) : Int)))
      have HC := Lib.hid (crash_any b { { s with n := s.n + 1 } with left := 0 } _ s.keep _ P2.out.pb ⟨hg.sec, hg.wt, hg.lo, hg.hi, by show 0 < _; omega, hg.kp⟩ hn hg.kp)
      have HF := Lib.hid hF
      have hc0 : ((0 : Nat) : Int) = 0 := rfl
      rw [hc0] at HC K2
      rw [hkk] at c5
      rw [h1] at c4
      clear h hK e1 hF hkk hg hc0 P1 K1 P2 h0 h1
      go_enter Tryz.func136, Tryz.ntmps136
      go_wp2_with (go_at_call 25; refine HC.out.mono ?_; rintro e w1 ⟨rfl, k1⟩; have K3 := Lib.hid k1; clear k1)
      go_ret
      exact ⟨rfl, Goes.trans (fun k hk => .inl (HF.out k hk)) (K2.out.wider (fun _ h => h)) K3.out⟩
    · have e1 : count s = { { s with n := s.n + 1 } with left := s.left - 1 } := by unfold count; rw [if_neg h0, if_neg h1]
      rw [e1, if_neg h1]
      have P2 := Lib.hid (P1.out.setLeft (s.left - 1) (by omega) (fun _ _ => hkk))
      have K2 := Lib.hid (K1.out.set (b := b) (o := 4100) (.inl hbF) (.int .i64 ((s.left - 1 : Nat) : Int)))
      have hcast : ((s.left - 1 : Nat) : Int) = (s.left : Int) - 1 := by omega
      rw [hcast] at P2 K2
      have HF := Lib.hid hF
      have h1I : (1 : Int) < (s.left : Int) := by omega
      clear h hK e1 hF hkk hg hcast P1 K1 h0 h1 hgo
      go_enter Tryz.func136, Tryz.ntmps136
      go_wp2
      go_ret
      exact ⟨rfl, Goes.plate P2.out hbF (fun k hk => .inl (HF.out k (.inr hk))) K2.out⟩

theorem PBv.setOrder {w : World} {b : Nat} {s : St} {L K : Nat} {v : Value} (h : PBv w b s L K v) (l k : Nat) (hl : l < 9223372036854775808) (hk : k < 18446744073709551616) (s' : St) (h1 : s'.is = s.is) (hw : s'.wait = s.wait) (hg : s'.gone = s.gone) (hn : s'.n = s.n)
    (lf : s'.gone = false → l = s'.left ∧ (s'.left ≠ 0 → k = s'.keep)) : PBv ((w.setCell ⟨b, 4100, none⟩ (.int .i64 (l : Int))).setCell ⟨b, 4101, none⟩ (.int .u64 (k : Int))) b s' l k v := by
  have e1 : PBv (w.setCell ⟨b, 4100, none⟩ (.int .i64 (l : Int))) b { s with gone := true } l K v ∨ True := .inr trivial
  refine ⟨((h.row.set 4100 (.int .i64 (l : Int))).set 4101 (.int .u64 (k : Int))).congr fun o _ => ?_, ?_, lf, hl, hk⟩
  · unfold pf
    rw [h1, hg, hn]
    by_cases e : o = 4101
    · simp [e]
    · by_cases e' : o = 4100
      · simp [e']
      · simp only [e, e', if_false]
        split
        · rfl
        · split
          · rfl
          · split
            · rfl
            · split
              · rfl
              · split
                · rfl
                · next h1 h2 h3 h4 h5 => exfalso; omega
  · rw [hw]
    exact owns_kept h.own fun g hg => by
      rw [Below.heap_setCell _ _ _ _ (fun e => h.ne (by rw [hg]; exact congrArg some e)), Below.heap_setCell _ _ _ _ (fun e => h.ne (by rw [hg]; exact congrArg some e))]

set_option maxRecDepth 100000 in
set_option maxHeartbeats 2000000 in
theorem cut_any (b : Nat) (s : St) (F : Nat → Prop) (k : Int) (keep : Nat) (w : World) (h : PB w b s F) (hk : k < 9223372036854775808) (hkp : keep < 18446744073709551616) :
    Calls Tryz.prog 23 #[.pointer (some ⟨b, 0, none⟩), .int .i64 k, .int .u64 keep] w fun e w' => e = .returned (.tuple #[]) ∧ Goes F w w' (PB w' b (cut s k keep)) := by
  have hbF := h.mem
  obtain ⟨L, K, v, h, hF⟩ := h.v
  obtain ⟨-, -, -, -, c4, c5⟩ := h.cells
  have f4 := h.row.frozen 4100
  have f5 := h.row.frozen 4101
  have P1 := Lib.hid (h.setOrder k.toNat keep (by omega) hkp (cut s k keep) rfl rfl rfl rfl (fun _ => ⟨rfl, fun _ => rfl⟩))
  have K1 := Lib.hid (((Keeps.refl F w).set (b := b) (o := 4100) (.inl hbF) (.int .i64 (k.toNat : Int))).set (b := b) (o := 4101) (.inl hbF) (.int .u64 (keep : Int)))
  have HF := Lib.hid hF
  clear h hF
  by_cases h0 : 0 ≤ k
  · have e : (k.toNat : Int) = k := by omega
    rw [e] at P1 K1
    go_enter Tryz.func23, Tryz.ntmps23
    go_wp2
    go_end0
    exact ⟨rfl, Goes.plate P1.out hbF (fun k hk => .inl (HF.out k (.inr hk))) K1.out⟩
  · have e : (k.toNat : Int) = 0 := by omega
    rw [e] at P1 K1
    clear e
    go_enter Tryz.func23, Tryz.ntmps23
    go_wp2
    go_end0
    exact ⟨rfl, Goes.plate P1.out hbF (fun k hk => .inl (HF.out k (.inr hk))) K1.out⟩

set_option maxRecDepth 100000 in
set_option maxHeartbeats 2000000 in
theorem power_any (b : Nat) (s : St) (F : Nat → Prop) (w : World) (h : PB w b s F) :
    Calls Tryz.prog 63 #[.pointer (some ⟨b, 0, none⟩)] w fun e w' => e = .returned (.tuple #[]) ∧ Goes F w w' (PB w' b (power s)) := by
  have hbF := h.mem
  obtain ⟨L, K, v, h, hF⟩ := h.v
  obtain ⟨-, -, c2, -, c4, c5⟩ := h.cells
  have f2 := h.row.frozen 4098
  have f4 := h.row.frozen 4100
  have f5 := h.row.frozen 4101
  have P0 : PBv (w.setCell ⟨b, 4098, none⟩ (.bool false)) b { s with gone := false, left := L, keep := K } L K v :=
    h.set 4098 _ rfl (fun o => by unfold pf; by_cases e : o = 4098 <;> simp [e]) (fun _ => ⟨rfl, fun _ => rfl⟩) h.lt h.kt
  have P1 := Lib.hid (P0.setOrder 0 0 (by omega) (by omega) (power s) rfl rfl rfl rfl (fun _ => ⟨rfl, fun e => absurd rfl e⟩))
  have K1 := Lib.hid ((((Keeps.refl F w).set (b := b) (o := 4098) (.inl hbF) (.bool false)).set (b := b) (o := 4100) (.inl hbF) (.int .i64 ((0 : Nat) : Int))).set (b := b) (o := 4101) (.inl hbF) (.int .u64 ((0 : Nat) : Int)))
  have e : ((0 : Nat) : Int) = 0 := rfl
  rw [e] at P1 K1
  have HF := Lib.hid hF
  clear h hF P0 e
  go_enter Tryz.func63, Tryz.ntmps63
  go_wp2
  go_end0
  exact ⟨rfl, Goes.plate P1.out hbF (fun k hk => .inl (HF.out k (.inr hk))) K1.out⟩
end Go.Proofs.YtmmpknfkncgjpaaGreatDoor

namespace Go.Proofs.YtmmpknfkncgjpaaGreatDoor
open Go.RowKit

def zs : List Value := List.replicate 4096 (.int .u8 0)
theorem zs_length : zs.length = 4096 := List.length_replicate
theorem zs_get (q : Nat) (h : q < 4096) : zs[q]? = some (.int .u8 0) := by unfold zs; rw [List.getElem?_replicate, if_pos h]
/-- The cells of a plate with nothing in it, of so many sectors. -/
def blank (m : Int) : List Value := .int .i64 m :: (zs ++ [.slice none 0 0, .bool false, .int .i64 0, .int .i64 0, .int .u64 0])
set_option maxRecDepth 1000000 in
theorem info58 : (Tryz.prog.info? 86).map (fun i => (i.zero, i.size)) = some (some (.agg (blank 0).toArray), 4102) := by kernel_rfl
theorem blank_length (m : Int) : (blank m).length = 4102 := by
  unfold blank; rw [List.length_cons, List.length_append, zs_length]; rfl
theorem blank_set (k m : Int) : (blank k).toArray.setIfInBounds 0 (.int .i64 m) = (blank m).toArray := by
  rw [List.setIfInBounds_toArray]; rfl
theorem zero58 : ∃ Z : Array Value, (∀ w, (zeroValue 86).run Tryz.prog w = .ok (.agg Z) w) ∧ Z ≠ #[] ∧ ∀ m, Z.setIfInBounds 0 (.int .i64 m) = (blank m).toArray := by
  refine ⟨(blank 0).toArray, fun w => ?_, fun e => ?_, fun m => blank_set 0 m⟩
  · have h := info58
    generalize blank 0 = z at h ⊢
    cases hi : Tryz.prog.info? 86 with
    | none => rw [hi] at h; simp at h
    | some i =>
      rw [hi] at h
      simp only [Option.map_some, Option.some.injEq, Prod.mk.injEq] at h
      simp [zeroValue, typeInfo, hi, h.1]
  · have h1 := congrArg Array.size e
    rw [List.size_toArray, blank_length] at h1
    exact absurd h1 (by simp)
theorem byteAt_zero (m q : Nat) : byteAt (List.replicate m (zeros 32)) q = 0 := by
  unfold byteAt
  simp only [List.getD_eq_getElem?_getD, List.getElem?_replicate]
  split
  · simp only [Option.getD_some, zeros, List.getElem?_replicate]
    split <;> rfl
  · rfl
theorem blank_get (n : Int) (o : Nat) (h : o < 4102) : (blank (size0 n : Int)).toArray[o]? = some (pf (fresh n) 0 0 (.slice none 0 0) o) := by
  rw [List.getElem?_toArray]
  unfold pf
  by_cases h0 : o = 0
  · subst h0; rw [if_pos rfl]; show some (Value.int .i64 (size0 n : Int)) = some (Value.int .i64 ((List.replicate (size0 n) (zeros 32)).length : Int)); rw [List.length_replicate]
  · rw [if_neg h0]
    obtain ⟨q, rfl⟩ : ∃ q, o = q + 1 := ⟨o - 1, by omega⟩
    have e : (blank (size0 n : Int))[q + 1]? = (zs ++ [.slice none 0 0, .bool false, .int .i64 0, .int .i64 0, .int .u64 0])[q]? := rfl
    rw [e]
    by_cases h1 : q + 1 < 4097
    · rw [if_pos h1, List.getElem?_append_left (by rw [zs_length]; omega), zs_get q (by omega)]
      unfold sc
      rw [show (fresh n).is = List.replicate (size0 n) (zeros 32) from rfl, byteAt_zero]
      rfl
    · rw [if_neg h1, List.getElem?_append_right (by rw [zs_length]; omega), zs_length]
      obtain ⟨r, rfl, hr⟩ : ∃ r, q = 4096 + r ∧ r < 5 := ⟨q - 4096, by omega, by omega⟩
      rw [Nat.add_sub_cancel_left]
      clear h h0 h1 e
      rcases (show r = 0 ∨ r = 1 ∨ r = 2 ∨ r = 3 ∨ r = 4 by omega) with rfl | rfl | rfl | rfl | rfl <;> simp [fresh]
theorem PB.fresh (n : Int) (w : World) : PB (w.alloc (.cells (blank (size0 n : Int)).toArray 86)) w.heap.size (fresh n) (fun k => k = w.heap.size ∨ (Value.slice none 0 0).ownBlock = some k) := by
  have hr : (w.alloc (.cells (blank (size0 n : Int)).toArray 86)).rowIs w.heap.size 86 4102 (pf (Go.Proofs.YtmmpknfkncgjpaaGreatDoor.fresh n) 0 0 (.slice none 0 0)) :=
    ⟨_, heap_alloc_new w _, by simp [blank_length], fun i hi => blank_get n i hi⟩
  exact PBv.pb ⟨hr, World.ownsRow_nil _ _ _ _, fun _ => ⟨rfl, fun e => absurd rfl e⟩, by omega, by omega⟩

set_option maxRecDepth 100000 in
set_option maxHeartbeats 2000000 in
theorem new_any (n : Int) (w : World) :
    Calls Tryz.prog 28 #[.int .i64 n] w fun e w' => e = .returned (.pointer (some ⟨w.heap.size, 0, none⟩)) ∧ Goes (fun _ => False) w w' (PB w' w.heap.size (fresh n)) := by
  have HP := Lib.hid (PB.fresh n w)
  have HB := Lib.hid (show Below w.heap.size w (w.alloc (.cells (blank (size0 n : Int)).toArray 86)) from (Below.refl _ _).alloc (Nat.le_refl _) _)
  have hsz : (size0 n : Int) = if n < 4 then 4 else if 128 < n then 128 else n := by
    unfold size0; split; rfl; split; rfl; omega
  generalize (size0 n : Int) = m at HP HB hsz
  obtain ⟨Z, hz, hne, hset⟩ := zero58
  have fin : ∀ w' : World, w' = w.alloc (.cells (Z.setIfInBounds 0 (.int .i64 m)) 86) → Goes (fun _ => False) w w' (PB w' w.heap.size (fresh n)) := fun w' e => by
    rw [hset] at e
    subst e
    exact ⟨_, HP.out, fun k hk => by rcases hk with rfl | hk; (exact .inr (Nat.le_refl _)); (simp [Value.ownBlock] at hk), Keeps.of_below HB.out⟩
  have FIN := Lib.hid fin
  clear fin HP HB hset
  by_cases h1 : n < 4
  · rw [if_pos h1] at hsz
    subst hsz
    go_enter Tryz.func28, Tryz.ntmps28
    go_wp2
    go_ret
    exact ⟨rfl, FIN.out _ rfl⟩
  · rw [if_neg h1] at hsz
    by_cases h2 : 128 < n
    · rw [if_pos h2] at hsz
      subst hsz
      go_enter Tryz.func28, Tryz.ntmps28
      go_wp2
      go_ret
      exact ⟨rfl, FIN.out _ rfl⟩
    · rw [if_neg h2] at hsz
      subst hsz
      go_enter Tryz.func28, Tryz.ntmps28
      go_wp2
      go_ret
      exact ⟨rfl, FIN.out _ rfl⟩
end Go.Proofs.YtmmpknfkncgjpaaGreatDoor
