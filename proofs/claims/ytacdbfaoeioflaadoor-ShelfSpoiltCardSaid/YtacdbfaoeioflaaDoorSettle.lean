/-
  settle (package plate), by a contract for each of the two that call it.
-/
import Derived.Test.YtacdbfaoeioflaaDoorLaws
namespace Go.Proofs.YtacdbfaoeioflaaDoor
open Go.RowKit

theorem pf_waits (s : St) (ws : List Wr) (L K : Nat) (v u : Value) (o : Nat) : (if o = 4097 then u else pf s L K v o) = pf { s with wait := ws } L K u o := by
  unfold pf
  by_cases h : o = 4097
  · subst h; simp
  · simp [h]
/-- What waits is another row. -/
theorem PBv.setWaits {w : World} {b : Nat} {s : St} {L K : Nat} {v u : Value} {ws : List Wr} (h : PBv w b s L K v) (ho : w.ownsRow 0 148 33 u ws.length (flat ws)) : PBv (w.setCell ⟨b, 4097, none⟩ u) b { s with wait := ws } L K u :=
  ⟨(h.row.set 4097 u).congr fun o _ => pf_waits s ws L K v u o, owns_kept ho fun g hg => Below.heap_setCell _ _ _ _ (fun e => owns_ne ho h.row (by decide) (by rw [hg]; exact congrArg some e)), h.lf, h.lt, h.kt⟩

set_option maxRecDepth 100000 in
set_option maxHeartbeats 2000000 in
theorem settle_all (b : Nat) (s : St) (L K : Nat) (v : Value) (w : World) (h : PBv w b s L K v) (hg : Good s) (hn : s.wait.length ≤ 1000) :
    Calls Tryd.prog 70 #[.pointer (some ⟨b, 0, none⟩), .func (.func 71) #[] #[]] w fun e w' => e = .returned (.tuple #[]) ∧ PBv w' b { s with is := done (fun _ => 32) s.wait s.is s.wait.length, wait := [] } L K (.slice none 0 0) ∧ Keeps (fun k => k = b) w w' := by
  obtain ⟨-, c1, -⟩ := h.cells
  have hhi := hg.hi
  have hform := owns_form (f := wcells) h.own (fun x hx => wcells_length (hg.wt x hx).2)
  have hbl := h.row.lt
  have HG := Lib.hid hg
  have H0 := Lib.hid h
  have HN := Lib.hid h.ne
  clear h hg
  rcases hform with ⟨rfl, h0⟩ | ⟨g, cap, rfl, hgl, hcap, hcm, hat⟩
  · have H1 := Lib.hid h0
    have f0 := H0.out.row.frozen 4097
    clear h0
    go_enter Tryd.func70, Tryd.ntmps70
    go_wp2
    go_loopw [11] (fun jv wr => jv = .int .i64 0 ∧ wr = w) (fun _ _ => 0)
    case atStart => exact ⟨rfl, rfl⟩
    case round =>
      obtain ⟨rfl, rfl⟩ := hrel
      go_wp2
      go_end0
      refine ⟨rfl, ?_, (Keeps.refl (fun k => k = b) _).set (b := b) (.inl rfl) _⟩
      have e : ({ s with is := done (fun _ => 32) s.wait s.is s.wait.length, wait := [] } : St) = { s with wait := [] } := by rw [H1.out]; rfl
      rw [e]
      exact H0.out.setWaits (World.ownsRow_nil _ _ _ _)
  · have HAT := Lib.hid hat
    have HGL := Lib.hid hgl
    clear hat hgl
    unfold maxLen at hcm
    go_enter Tryd.func70, Tryd.ntmps70
    go_wp2
    go_loopw [11] (fun jv wr => ∃ j : Nat, j ≤ s.wait.length ∧ jv = .int .i64 j ∧ PBv wr b (at' s (fun _ => 32) j) L K (.slice (some ⟨g, 0, none⟩) s.wait.length cap) ∧ Keeps (fun k => k = b) w wr) (fun jv _ => s.wait.length - (intOf jv).toNat)
    case atStart => exact ⟨0, Nat.zero_le _, rfl, H0.out, Keeps.refl _ _⟩
    case round =>
      obtain ⟨j, hj, rfl, hP, hK⟩ := hrel
      have P1 := Lib.hid hP
      have K1 := Lib.hid hK
      clear hP hK H0 c1
      by_cases hlt : j < s.wait.length
      · obtain ⟨x, hx⟩ : ∃ x, s.wait[j]? = some x := ⟨_, List.getElem?_eq_getElem hlt⟩
        obtain ⟨hxi, hx32⟩ := HG.out.wt x (List.mem_of_getElem? hx)
        have hr := HAT.out j x hx
        have hgb : g ≠ b := fun e => HN.out (by subst e; rfl)
        have HR := Lib.hid (show wr.rangeAt g (j * 33) (wcells x) from fun q u hu => K1.out.cell (hr q u hu) hgb)
        have H32 := Lib.hid hx32
        have hlI : (j : Int) < (s.wait.length : Int) := by omega
        have hj0 : (0 : Int) ≤ (j : Int) := by omega
        have HX := Lib.hid hx
        clear hr hx hx32 hgb
        go_wp2_with (first
          | (with_reducible show wpList _ _ _ (Oper.mk _ (Op.load 148 _) _ _ _ _ :: _) _ _; refine wpList_load_mid rfl 148 (.tmp 14) rfl g (j * 33) rfl (wcells x) _ HR.out Tryd.underlying148 rfl (by rw [info61, wcells_length H32.out]) ?_)
          | (with_reducible show wpList _ _ _ (Oper.mk none (Op.store 148 _ _) _ _ _ _ :: _) _ _; refine wpList_store_wr rfl (.tmp 5) (.tmp 15) rfl wr.heap.size x H32.out _ rfl rfl (heap_alloc_new wr _) rfl ?_; intro wF hWB hBF))
        have hb1 : Below wr.heap.size wr wF := ((Below.refl _ wr).alloc (Nat.le_refl _) _).trans hBF
        have hb2 : Below wr.heap.size wr wF.drew := hb1.drew
        have PD := Lib.hid (P1.out.below hb2)
        have KD := Lib.hid (K1.out.then_below hb2)
        have WD := Lib.hid (show WB wF.drew wr.heap.size x from hWB)
        have hc0 := WD.out.at0
        have hx0 : (0 : Int) ≤ (x.i : Int) := by omega
        have hx1 : (x.i : Int) < 128 := by omega
        have hzb : ¬ wr.heap.size = b := by have := K1.out.size; omega
        skip
        clear hb1 hb2 hBF hWB
        go_region_held3 (fun w' => w'.cell? ⟨wr.heap.size, 0, none⟩ = some (.int .i64 x.i)) (first | assumption | fail)
          (first
            | (go_at_call 71; refine (all_any _ _).mono ?_; rintro e w1 ⟨rfl, rfl⟩)
            | (refine step_settle rfl (.tmp 25) (.tmp 27) (by rfl) b s (fun _ => 32) j L K _ PD.out HG.out x HX.out (by omega) wr.heap.size WD.out (by rfl) (by rfl) ?_; intro w2 hp hk; have hc2 := hk.cell hc0 hzb; have P2 := Lib.hid hp; have K2 := Lib.hid (KD.out.trans hk (fun _ h => .inl h)); clear hp hk)
            | fail)
        go_wp2
        go_roundw
        case rel => exact ⟨j + 1, by omega, by go_num, P2.out, K2.out⟩
        case measure => simp [intOf]; omega
      · obtain rfl : j = s.wait.length := by omega
        have hlI : ¬ ((s.wait.length : Int) < (s.wait.length : Int)) := by omega
        have f0 := P1.out.row.frozen 4097
        have c1 := P1.out.cells.2.1
        go_wp2
        go_end0
        exact ⟨rfl, P1.out.setWaits (World.ownsRow_nil _ _ _ _), K1.out.set (.inl rfl) _⟩

set_option maxRecDepth 100000 in
set_option maxHeartbeats 2000000 in
theorem settle_torn (b : Nat) (s : St) (L K : Nat) (v : Value) (C keep : Nat) (w : World) (h : PBv w b s L K v) (hg : Good s) (hn : s.wait.length ≤ 1000) (HC : Hid (w.cell? ⟨C, 0, none⟩ = some (.int .u64 keep))) (HCb : Hid (C ≠ b)) (hkp : keep < 18446744073709551616) :
    Calls Tryd.prog 70 #[.pointer (some ⟨b, 0, none⟩), .func (.func 74) #[] #[.pointer (some ⟨C, 0, none⟩)]] w fun e w' => e = .returned (.tuple #[]) ∧ PBv w' b { s with is := done (part keep) s.wait s.is s.wait.length, wait := [] } L K (.slice none 0 0) ∧ Keeps (fun k => k = b) w w' := by
  obtain ⟨-, c1, -⟩ := h.cells
  have hhi := hg.hi
  have hform := owns_form (f := wcells) h.own (fun x hx => wcells_length (hg.wt x hx).2)
  have hbl := h.row.lt
  have HG := Lib.hid hg
  have H0 := Lib.hid h
  have HN := Lib.hid h.ne
  clear h hg
  rcases hform with ⟨rfl, h0⟩ | ⟨g, cap, rfl, hgl, hcap, hcm, hat⟩
  · have H1 := Lib.hid h0
    have f0 := H0.out.row.frozen 4097
    clear h0
    go_enter Tryd.func70, Tryd.ntmps70
    go_wp2
    go_loopw [11] (fun jv wr => jv = .int .i64 0 ∧ wr = w) (fun _ _ => 0)
    case atStart => exact ⟨rfl, rfl⟩
    case round =>
      obtain ⟨rfl, rfl⟩ := hrel
      go_wp2
      go_end0
      refine ⟨rfl, ?_, (Keeps.refl (fun k => k = b) _).set (b := b) (.inl rfl) _⟩
      have e : ({ s with is := done (part keep) s.wait s.is s.wait.length, wait := [] } : St) = { s with wait := [] } := by rw [H1.out]; rfl
      rw [e]
      exact H0.out.setWaits (World.ownsRow_nil _ _ _ _)
  · have HAT := Lib.hid hat
    have HGL := Lib.hid hgl
    clear hat hgl
    unfold maxLen at hcm
    go_enter Tryd.func70, Tryd.ntmps70
    go_wp2
    go_loopw [11] (fun jv wr => ∃ j : Nat, j ≤ s.wait.length ∧ jv = .int .i64 j ∧ PBv wr b (at' s (part keep) j) L K (.slice (some ⟨g, 0, none⟩) s.wait.length cap) ∧ Keeps (fun k => k = b) w wr) (fun jv _ => s.wait.length - (intOf jv).toNat)
    case atStart => exact ⟨0, Nat.zero_le _, rfl, H0.out, Keeps.refl _ _⟩
    case round =>
      obtain ⟨j, hj, rfl, hP, hK⟩ := hrel
      have P1 := Lib.hid hP
      have K1 := Lib.hid hK
      clear hP hK H0 c1
      by_cases hlt : j < s.wait.length
      · obtain ⟨x, hx⟩ : ∃ x, s.wait[j]? = some x := ⟨_, List.getElem?_eq_getElem hlt⟩
        obtain ⟨hxi, hx32⟩ := HG.out.wt x (List.mem_of_getElem? hx)
        have hr := HAT.out j x hx
        have hgb : g ≠ b := fun e => HN.out (by subst e; rfl)
        have HR := Lib.hid (show wr.rangeAt g (j * 33) (wcells x) from fun q u hu => K1.out.cell (hr q u hu) hgb)
        have H32 := Lib.hid hx32
        have hlI : (j : Int) < (s.wait.length : Int) := by omega
        have hj0 : (0 : Int) ≤ (j : Int) := by omega
        have HX := Lib.hid hx
        clear hr hx hx32 hgb
        go_wp2_with (first
          | (with_reducible show wpList _ _ _ (Oper.mk _ (Op.load 148 _) _ _ _ _ :: _) _ _; refine wpList_load_mid rfl 148 (.tmp 14) rfl g (j * 33) rfl (wcells x) _ HR.out Tryd.underlying148 rfl (by rw [info61, wcells_length H32.out]) ?_)
          | (with_reducible show wpList _ _ _ (Oper.mk none (Op.store 148 _ _) _ _ _ _ :: _) _ _; refine wpList_store_wr rfl (.tmp 5) (.tmp 15) rfl wr.heap.size x H32.out _ rfl rfl (heap_alloc_new wr _) rfl ?_; intro wF hWB hBF))
        have hb1 : Below wr.heap.size wr wF := ((Below.refl _ wr).alloc (Nat.le_refl _) _).trans hBF
        have hb2 : Below wr.heap.size wr wF.drew := hb1.drew
        have PD := Lib.hid (P1.out.below hb2)
        have KD := Lib.hid (K1.out.then_below hb2)
        have WD := Lib.hid (show WB wF.drew wr.heap.size x from hWB)
        have hc0 := WD.out.at0
        have hx0 : (0 : Int) ≤ (x.i : Int) := by omega
        have hx1 : (x.i : Int) < 128 := by omega
        have hzb : ¬ wr.heap.size = b := by have := K1.out.size; omega
        have hpl := part_le keep j
        have hp0 : (0 : Int) ≤ (part keep j : Int) := by omega
        have hp1 : (part keep j : Int) ≤ 32 := by omega
        have HT := Lib.hid (torn_any C keep j wF.drew (by have h1 := K1.out.cell HC.out (fun e => HCb.out e); exact (hb2.cell (p := ⟨C, 0, none⟩) (World.block_lt_of_cell? _ _ h1)).trans h1) hkp (by omega))
        have HPL := Lib.hid hpl
        clear hpl
        clear hb1 hb2 hBF hWB
        go_region_held3 (fun w' => w'.cell? ⟨wr.heap.size, 0, none⟩ = some (.int .i64 x.i)) (first | assumption | fail)
          (first
            | (go_at_call 74; refine HT.out.mono ?_; rintro e w1 ⟨rfl, rfl⟩)
            | (refine step_settle rfl (.tmp 25) (.tmp 27) (by rfl) b s (part keep) j L K _ PD.out HG.out x HX.out HPL.out wr.heap.size WD.out (by rfl) (by rfl) ?_; intro w2 hp hk; have hc2 := hk.cell hc0 hzb; have P2 := Lib.hid hp; have K2 := Lib.hid (KD.out.trans hk (fun _ h => .inl h)); clear hp hk)
            | fail)
        go_wp2
        go_roundw
        case rel => exact ⟨j + 1, by omega, by go_num, P2.out, K2.out⟩
        case measure => simp [intOf]; omega
      · obtain rfl : j = s.wait.length := by omega
        have hlI : ¬ ((s.wait.length : Int) < (s.wait.length : Int)) := by omega
        have f0 := P1.out.row.frozen 4097
        have c1 := P1.out.cells.2.1
        go_wp2
        go_end0
        exact ⟨rfl, P1.out.setWaits (World.ownsRow_nil _ _ _ _), K1.out.set (.inl rfl) _⟩
end Go.Proofs.YtacdbfaoeioflaaDoor
