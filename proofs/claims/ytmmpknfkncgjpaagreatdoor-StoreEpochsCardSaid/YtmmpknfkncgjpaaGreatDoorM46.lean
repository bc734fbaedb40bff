/-
  Handle of the package's server, by a contract.
-/
import Derived.Test.YtmmpknfkncgjpaaGreatDoorM45
import Derived.Test.YtmmpknfkncgjpaaGreatDoorM44
import Derived.Test.YtmmpknfkncgjpaaGreatDoorM18
import Derived.Test.YtmmpknfkncgjpaaGreatDoorM39
import Derived.StillTailTactics
namespace Go.Proofs.YtmmpknfkncgjpaaGreatDoor
open Go.RowKit

/-! ### as plain data -/
@[reducible] def M.zero : M := ⟨0, 0, 0, 0, 0, 0, 0, ⟨#[]⟩⟩
instance (id : Int) (s : St) (m : M) : Decidable (heard id s m) := by unfold heard; infer_instance
/-- What Handle leaves. -/
noncomputable def hS (id : Int) (s : St) (L : Lay) (v : Sv) (m : M) (now : Int) : St × Lay × Sv := if heard id s m then (hO L s v m now).2.2 else (s, L, v)
/-- What it answers. -/
noncomputable def hA (id : Int) (s : St) (L : Lay) (v : Sv) (m : M) (now : Int) : M × Bool :=
  if heard id s m ∧ (hO L s v m now).2.2.1.gone = false then (⟨m.kind + 128, id, m.src, (hO L s v m now).2.2.2.2.ep, m.seq, m.off, (hO L s v m now).1, (hO L s v m now).2.1⟩, true) else (M.zero, false)
theorem MB.kept {w w' : World} {b : Nat} {m : M} (h : MB w b m) (hb : w'.heap[b]? = w.heap[b]?) : MB w' b m := by unfold MB; rw [hb]; exact h

theorem Fr.kps {w w' : World} {b : Nat} (h : Fr b none w w') : Keeps (fun k => k = b) w w' := ⟨h.os, h.tape, h.output, h.size, fun k hk hn => h.block k hk hn (by simp)⟩
section
variable {w : World} {tb : Nat} {id : Int} {s : St} {L : Lay} {v : Sv} {N : Nat} {F : Nat → Prop}
theorem Goes.mono1 {w' : World} (h : Goes F w w' ((SVo tb id s L v N).at_ w')) : Goes F w w' ((SVo tb id s L v (N + 1)).at_ w') := by
  obtain ⟨F', h1, h2, h3⟩ := h
  exact ⟨F', SVo.mono h1 (Nat.le_succ _), h2, h3⟩
set_option maxRecDepth 100000 in
set_option maxHeartbeats 8000000 in
theorem shandle_any (h : (SVo tb id s L v N).at_ w F) (hE : ErrType w) (hT : Tab w) (hF : ¬ F 1) {n c : Nat} (hR : Rest s n c) (hc : c ≤ 900000) (hL : L.length = n) (hN : N < 900000) (hv : v.tm.length = 8) (m : M) (hki : i64 m.kind) (now : Int) :
    Calls Tryz.prog 24 #[.pointer (some ⟨tb, 0, none⟩), m.val, .int .i64 now] w fun e w' => e = .returned (.tuple #[(hA id s L v m now).1.val, .bool (hA id s L v m now).2]) ∧ Goes F w w' ((SVo tb id (hS id s L v m now).1 (hS id s L v m now).2.1 (hS id s L v m now).2.2 (N + 1)).at_ w') := by
  have hb0 : Below w.heap.size w ((w.alloc (.cells m.cells 31)).alloc (.cells M.zero.cells 31)) := ((Below.refl _ _).alloc (Nat.le_refl _) _).alloc (by simp) _
  have B0 := Lib.hid hb0
  have M0 := Lib.hid ((MB.fresh w m).below ((Below.refl _ _).alloc (Nat.le_refl _) (.cells M.zero.cells 31)))
  have Z0 := Lib.hid (show MB ((w.alloc (.cells m.cells 31)).alloc (.cells M.zero.cells 31)) (w.heap.size + 1) M.zero from by
    have := MB.fresh (w.alloc (.cells m.cells 31)) M.zero
    rwa [World.size_alloc] at this)
  have S0 := Lib.hid ((SVo tb id s L v N).below h hb0)
  have E0 := Lib.hid (hE.below hb0)
  have T0 := Lib.hid (hT.below hb0)
  have HF := Lib.hid hF
  have HFw := Lib.hid (fun k (e : F k) => (SVo tb id s L v N).lt h k e)
  have HRs := Lib.hid hR
  have HKi := Lib.hid hki
  obtain ⟨ha, hb, hha⟩ : ∃ a b, hA id s L v m now = (a, b) := ⟨_, _, rfl⟩
  obtain ⟨rs, rl, rv, hhs⟩ : ∃ a b c, hS id s L v m now = (a, b, c) := ⟨_, _, _, rfl⟩
  rw [hha, hhs]
  have HA := Lib.hid hha
  have HS := Lib.hid hhs
  clear h hb0 hha hhs hT hF hE hR hki
  obtain ⟨ok, hok⟩ : ∃ x, decide (1 ≤ m.kind ∧ m.kind ≤ 4) = x := ⟨_, rfl⟩
  obtain ⟨fq, hfq⟩ : ∃ x, fv ((gD m.kind).getD none) = x := ⟨_, rfl⟩
  obtain ⟨ck, hckq⟩ : ∃ x, m.chk = x := ⟨_, rfl⟩
  obtain ⟨hd, hhd⟩ : ∃ x, decide (heard id s m) = x := ⟨_, rfl⟩
  have HFQ := Lib.hid hfq
  have HHD := Lib.hid hhd
  have HCQ := Lib.hid hckq
  have HOK := Lib.hid hok
  have HCk := Lib.hid (fun V => show Calls Tryz.prog 58 #[.agg #[.int .i64 m.kind, .int .i64 m.src, .int .i64 m.dst, .int .i64 m.epoch, .int .i64 m.seq, .int .i64 m.off, .int .i64 m.len, .string m.data]] V fun e w' => e = .returned (.int .i64 ck) ∧ Below V.heap.size V w' from by
    have := check_any m V
    rw [hckq] at this
    exact this)
  have hsome : (gD m.kind).isSome = ok := by
    rw [← hok]
    unfold gD
    by_cases h4 : m.kind = 4
    · rw [if_pos h4, h4]; rfl
    by_cases h3 : m.kind = 3
    · rw [if_neg h4, if_pos h3, h3]; rfl
    by_cases h2 : m.kind = 2
    · rw [if_neg h4, if_neg h3, if_pos h2, h2]; rfl
    by_cases h1 : m.kind = 1
    · rw [if_neg h4, if_neg h3, if_neg h2, if_pos h1, h1]; rfl
    · rw [if_neg h4, if_neg h3, if_neg h2, if_neg h1, decide_eq_false (by omega)]; rfl
  have HSm := Lib.hid hsome
  clear hok hfq hckq hhd hsome
  go_enter Tryz.func24, Tryz.ntmps24
  go_wp2_with fail
  generalize (w.alloc (.cells m.cells 31)).alloc (.cells M.zero.cells 31) = w1 at B0 M0 Z0 S0 E0 T0 ⊢
  have d0 := M0.out.cell 0
  go_cut [8, 9] from 13 to 19 (fun v8 v9 wx => v8 = fq ∧ v9 = .bool ok ∧ Below w1.heap.size w1 wx)
  case first =>
    have HH := Lib.hid (show ∀ V, Below w1.heap.size w1 V → V.cell? ⟨w.heap.size, 0, none⟩ = some (.int .i64 m.kind) from fun V h => (M0.out.below h).cell 0)
    have Bz := Lib.hid ((Below.refl w1.heap.size w1).drew)
    go_region_held3 (fun w' => w'.cell? ⟨w.heap.size, 0, none⟩ = some (.int .i64 m.kind))
      (first | exact HH.out _ B1.out | exact HH.out _ Bz.out | fail)
      (first | (go_at_call 57; (with_reducible refine (deeds_any _).mono ?_); rintro e V1 ⟨mq, rfl, k1, k2⟩; have B1 := Lib.hid (Bz.out.trans (k2.mono Bz.out.size)); (have q : (Instr.lookup 123 (.map (some mq)) (.int .i64 m.kind) true).run Tryz.prog V1 = .ok (.tuple #[fq, .bool ok]) V1 := (show _ = Result.ok (.tuple #[fv ((gD m.kind).getD none), .bool (gD m.kind).isSome]) V1 from k1.look HKi.out).trans (by rw [HFQ.out, HSm.out])); clear k1 k2) | fail)
    all_goals
      clear HH
      go_wp2_with fail
      go_meet
      exact ⟨rfl, rfl, B1.out⟩
  case rest =>
    obtain ⟨rfl, rfl, hbx⟩ := hcut
    have S2 := Lib.hid ((SVo tb id s L v N).below S0.out hbx)
    have B2 := Lib.hid (B0.out.trans (hbx.mono B0.out.size))
    have M2 := Lib.hid (M0.out.below hbx)
    have Z2 := Lib.hid (Z0.out.below hbx)
    have E2 := Lib.hid (E0.out.below hbx)
    have T2 := Lib.hid (T0.out.below hbx)
    clear hbx d0 S0 B0 M0 Z0 E0 T0
    generalize wc = w2 at S2 B2 M2 Z2 E2 T2 ⊢
    obtain ⟨pb, sb, mb, ub, kb, odd, lost, F1, Fp, hSf, hH, hl, hP, -⟩ := SVo.parts S2.out
    obtain ⟨c0, c1, -⟩ := hH.cells
    have C0 := Lib.hid c0
    have C1 := Lib.hid c1
    have HDd := Lib.hid (fun V (h : Below w2.heap.size w2 V) => dead_any pb s Fp V (pb_below hP h))
    have d0 := M2.out.cell 0
    have d1 := M2.out.cell 1
    have d2 := M2.out.cell 2
    have d3 := M2.out.cell 3
    have d4 := M2.out.cell 4
    have d5 := M2.out.cell 5
    have d6 := M2.out.cell 6
    have d7 := M2.out.cell 7
    clear hSf hH hl hP
    go_wp2_with fail
    go_cut [42] from 20 to 42 (fun c wx => c = .bool (!hd) ∧ Below w2.heap.size w2 wx)
    case first =>
      cases ok with
      | false =>
        have hz : hd = false := by rw [← HHD.out]; exact decide_eq_false (fun e => of_decide_eq_false HOK.out ⟨e.2.2.2.1, e.2.2.2.2⟩)
        subst hz
        go_quiet (fail)
        go_wp2
        go_meet
        exact ⟨rfl, below_drewN (Below.refl _ _) _⟩
      | true =>
        have hok := of_decide_eq_true HOK.out
        by_cases h1 : m.dst = id
        case neg =>
          have hz : hd = false := by rw [← HHD.out]; exact decide_eq_false (fun e => h1 e.2.2.1)
          subst hz
          have hne : (m.dst != id) = true := by simp [h1]
          go_quiet (fail)
          go_wp2
          go_meet
          exact ⟨rfl, below_drewN (Below.refl _ _) _⟩
        have hne : (m.dst != id) = false := by simp [h1]
        have HH := Lib.hid (show ∀ V, Below w2.heap.size w2 V → V.cell? ⟨tb, 0, none⟩ = some (.pointer (some ⟨pb, 0, none⟩)) ∧ V.cell? ⟨tb, 1, none⟩ = some (.int .i64 id) ∧ V.cell? ⟨w.heap.size, 0, none⟩ = some (.int .i64 m.kind) ∧ V.cell? ⟨w.heap.size, 1, none⟩ = some (.int .i64 m.src) ∧ V.cell? ⟨w.heap.size, 2, none⟩ = some (.int .i64 m.dst) ∧ V.cell? ⟨w.heap.size, 3, none⟩ = some (.int .i64 m.epoch) ∧ V.cell? ⟨w.heap.size, 4, none⟩ = some (.int .i64 m.seq) ∧ V.cell? ⟨w.heap.size, 5, none⟩ = some (.int .i64 m.off) ∧ V.cell? ⟨w.heap.size, 6, none⟩ = some (.int .i64 m.len) ∧ V.cell? ⟨w.heap.size, 7, none⟩ = some (.string m.data) from fun V h => ⟨(h.cell (p := ⟨tb, 0, none⟩) (cell_lt C0.out)).trans C0.out, (h.cell (p := ⟨tb, 1, none⟩) (cell_lt C1.out)).trans C1.out, (M2.out.below h).cell 0, (M2.out.below h).cell 1, (M2.out.below h).cell 2, (M2.out.below h).cell 3, (M2.out.below h).cell 4, (M2.out.below h).cell 5, (M2.out.below h).cell 6, (M2.out.below h).cell 7⟩)
        have Bz := Lib.hid ((Below.refl w2.heap.size w2).drew)
        by_cases h2 : ck = 0
        case neg =>
          have hz : hd = false := by rw [← HHD.out]; exact decide_eq_false (fun e => h2 (HCQ.out ▸ e.2.1))
          subst hz
          have hch : (ck != 0) = true := by simp [h2]
          clear hok h1 h2
          go_still_tail 13, (by kernel_rfl)
          change wpList _ _ _ _ _ w2.drew
          go_wp2_with fail
          go_at_call 58
          refine (HCk.out _).mono ?_
          rintro e V1 ⟨rfl, k2⟩
          have B1 := Lib.hid (Bz.out.trans (k2.mono Bz.out.size))
          clear k2 HH
          go_wp2_with fail
          go_meet
          exact ⟨rfl, B1.out⟩
        have hch : (ck != 0) = false := by simp [h2]
        have hz : hd = !s.gone := by
          rw [← HHD.out]
          cases hg : s.gone with
          | true => exact decide_eq_false (fun e => by have := e.1; rw [hg] at this; cases this)
          | false => exact decide_eq_true ⟨hg, by rw [HCQ.out]; exact h2, h1, hok.1, hok.2⟩
        subst hz
        clear hok h1 h2
        go_still_tail 13, (by kernel_rfl)
        change wpList _ _ _ _ _ w2.drew
        go_wp2_with fail
        go_at_call 58
        refine (HCk.out _).mono ?_
        rintro e V1 ⟨rfl, k2⟩
        have B1 := Lib.hid (Bz.out.trans (k2.mono Bz.out.size))
        have hH1 := HH.out _ B1.out
        obtain ⟨y0, y1, -⟩ := hH1
        clear k2 HH
        go_wp2_with fail
        go_at_call 15
        refine (HDd.out _ B1.out).mono ?_
        rintro e V2 ⟨rfl, rfl⟩
        go_wp2_with fail
        go_meet
        exact ⟨by rw [Bool.not_not], B1.out⟩
    case rest =>
      obtain ⟨rfl, hbx⟩ := hcut
      have S4 := Lib.hid ((SVo tb id s L v N).below S2.out hbx)
      have B4 := Lib.hid (B2.out.trans (hbx.mono B2.out.size))
      have M4 := Lib.hid (M2.out.below hbx)
      have Z4 := Lib.hid (Z2.out.below hbx)
      have E4 := Lib.hid (E2.out.below hbx)
      have T4 := Lib.hid (T2.out.below hbx)
      clear hbx d0 d1 d2 d3 d4 d5 d6 d7 c0 c1 C0 C1 HDd S2 B2 M2 Z2 E2 T2
      generalize wc = w4 at S4 B4 M4 Z4 E4 T4 ⊢
      have hRne : ¬ F (w.heap.size + 1) := fun e => by have := HFw.out _ e; omega
      have HRn := Lib.hid hRne
      have HMn := Lib.hid (fun (e : F w.heap.size) => Nat.lt_irrefl _ (HFw.out _ e))
      clear hRne
      cases hd with
      | false =>
        have hnh : ¬ heard id s m := of_decide_eq_false HHD.out
        have e1 := HA.out.symm.trans (show hA id s L v m now = (M.zero, false) from if_neg (fun e => hnh e.1))
        have e2 := HS.out.symm.trans (show hS id s L v m now = (s, L, v) from if_neg hnh)
        simp only [Prod.mk.injEq] at e1 e2
        obtain ⟨rfl, rfl⟩ := e1
        obtain ⟨rfl, rfl, rfl⟩ := e2
        clear HA HS
        go_wp2_with ((with_reducible show wpList _ _ _ (Oper.mk none (Op.store _ (.tmp 6) _) _ _ _ _ :: _) _ _); refine wpList_store_msg rfl (.tmp 6) (.tmp 43) rfl (w.heap.size + 1) M.zero M.zero rfl rfl Z4.out ?_; intro wF k1 k2 k3; have RF := Lib.hid k1; have FF := Lib.hid k2; clear k1 k2 k3)
        have dd := fun j => RF.out.cell j
        have d0 := dd 0
        have d1 := dd 1
        have d2 := dd 2
        have d3 := dd 3
        have d4 := dd 4
        have d5 := dd 5
        have d6 := dd 6
        have d7 := dd 7
        refine bodyPost_ret (v := .tuple #[M.zero.val, .bool false]) (by simp [results, Tryz.results24, go_sem, d0, d1, d2, d3, d4, d5, d6, d7]) rfl ⟨rfl, ?_⟩
        have hk := FF.out.kps
        exact ⟨F, (SVo tb id rs rl rv (N + 1)).keeps (SVo.mono S4.out (Nat.le_succ _)) hk (fun k hk e => HRn.out (e ▸ hk)), fun k hk => .inl hk, (Keeps.of_below (F := F) B4.out).trans hk (fun k e => .inr (by rw [e]; exact Nat.le_succ _))⟩
      | true =>
        have hh : heard id s m := of_decide_eq_true HHD.out
        obtain ⟨hgo, hck, hds, hk1, hk4⟩ := hh
        have HHH := Lib.hid (show heard id s m from ⟨hgo, hck, hds, hk1, hk4⟩)
        obtain ⟨st, dd, s2, L2, v2, hho⟩ : ∃ a b c d e, hO L s v m now = (a, b, c, d, e) := ⟨_, _, _, _, _, rfl⟩
        have HO := Lib.hid hho
        clear hho hds hgo
        have d0 := M4.out.cell 0
        have d1 := M4.out.cell 1
        have d2 := M4.out.cell 2
        have d3 := M4.out.cell 3
        have d4 := M4.out.cell 4
        have d5 := M4.out.cell 5
        have d6 := M4.out.cell 6
        have d7 := M4.out.cell 7
        go_upto_region 4 with fail
        go_cut [10, 11] from 44 to 51 (fun v10 v11 wx => v10 = .string dd ∧ v11 = .int .i64 st ∧ Goes F w4 wx ((SVo tb id s2 L2 v2 (N + 1)).at_ wx))
        case first =>
          have hkc : m.kind = 1 ∨ m.kind = 2 ∨ m.kind = 3 ∨ m.kind = 4 := by omega
          rcases hkc with hkq | hkq | hkq | hkq
          · have hkk : m.kind = 1 := by omega
            have hfn := HFQ.out
            rw [hkk] at hfn
            change Value.func (.func 87) #[] #[] = _ at hfn
            have hho : hO L s v m now = (st, dd, s2, L2, v2) := HO.out
            unfold hO at hho
            rw [if_pos hkk] at hho
            simp only [Prod.mk.injEq] at hho
            obtain ⟨h1, h2, h3, h4, h5⟩ := hho
            have HC := Lib.hid (show Calls Tryz.prog 87 #[.pointer (some ⟨tb, 0, none⟩), .agg #[.int .i64 m.kind, .int .i64 m.src, .int .i64 m.dst, .int .i64 m.epoch, .int .i64 m.seq, .int .i64 m.off, .int .i64 m.len, .string m.data], .int .i64 now] w4 fun e w' => e = .returned (.tuple #[.string dd, .int .i64 st]) ∧ Goes F w4 w' ((SVo tb id s2 L2 v2 (N + 1)).at_ w') from by
              refine (onRead_any S4.out m hck now).mono ?_
              rintro e w' ⟨rfl, k2⟩
              rw [h1, h2]
              refine ⟨rfl, ?_⟩
              subst h3 h4 h5
              exact Ob.still _ (SVo.mono S4.out (Nat.le_succ _)) (Below.refl _ _) k2)
            clear h1 h2 h3 h4 h5 hkk hkq
            subst hfn
            go_wp2_with fail
            go_at_call 87
            refine HC.out.mono ?_
            rintro e w5 ⟨rfl, kg⟩
            have G5 := Lib.hid kg
            clear kg
            go_wp2_with fail
            go_meet
            exact ⟨rfl, rfl, G5.out⟩
          · have hkk : m.kind = 2 := by omega
            have hfn := HFQ.out
            rw [hkk] at hfn
            change Value.func (.func 88) #[] #[] = _ at hfn
            have hho : hO L s v m now = (st, dd, s2, L2, v2) := HO.out
            unfold hO at hho
            rw [if_neg (by omega : ¬ m.kind = 1), if_pos hkk] at hho
            simp only [Prod.mk.injEq] at hho
            obtain ⟨h1, h2, h3, h4, h5⟩ := hho
            have HC := Lib.hid (show Calls Tryz.prog 88 #[.pointer (some ⟨tb, 0, none⟩), .agg #[.int .i64 m.kind, .int .i64 m.src, .int .i64 m.dst, .int .i64 m.epoch, .int .i64 m.seq, .int .i64 m.off, .int .i64 m.len, .string m.data], .int .i64 now] w4 fun e w' => e = .returned (.tuple #[.string dd, .int .i64 st]) ∧ Goes F w4 w' ((SVo tb id s2 L2 v2 (N + 1)).at_ w') from by
              refine (onWrite_any S4.out E4.out T4.out HF.out HRs.out hc hL hN hv m hck now).mono ?_
              rintro e w' ⟨rfl, kg⟩
              skip
              exact ⟨by rw [h1, h2], by rw [← h3, ← h4, ← h5]; exact kg⟩)
            clear h1 h2 h3 h4 h5 hkk hkq
            subst hfn
            go_wp2_with fail
            go_at_call 88
            refine HC.out.mono ?_
            rintro e w5 ⟨rfl, kg⟩
            have G5 := Lib.hid kg
            clear kg
            go_wp2_with fail
            go_meet
            exact ⟨rfl, rfl, G5.out⟩
          · have hkk : m.kind = 3 := by omega
            have hfn := HFQ.out
            rw [hkk] at hfn
            change Value.func (.func 89) #[] #[] = _ at hfn
            have hho : hO L s v m now = (st, dd, s2, L2, v2) := HO.out
            unfold hO at hho
            rw [if_neg (by omega : ¬ m.kind = 1), if_neg (by omega : ¬ m.kind = 2), if_pos hkk] at hho
            simp only [Prod.mk.injEq] at hho
            obtain ⟨h1, h2, h3, h4, h5⟩ := hho
            have HC := Lib.hid (show Calls Tryz.prog 89 #[.pointer (some ⟨tb, 0, none⟩), .agg #[.int .i64 m.kind, .int .i64 m.src, .int .i64 m.dst, .int .i64 m.epoch, .int .i64 m.seq, .int .i64 m.off, .int .i64 m.len, .string m.data], .int .i64 now] w4 fun e w' => e = .returned (.tuple #[.string dd, .int .i64 st]) ∧ Goes F w4 w' ((SVo tb id s2 L2 v2 (N + 1)).at_ w') from by
              refine (onTime_any S4.out E4.out hN hv m hck now).mono ?_
              rintro e w' ⟨rfl, kg⟩
              skip
              exact ⟨by rw [h1, h2], by rw [← h3, ← h4, ← h5]; exact kg⟩)
            clear h1 h2 h3 h4 h5 hkk hkq
            subst hfn
            go_wp2_with fail
            go_at_call 89
            refine HC.out.mono ?_
            rintro e w5 ⟨rfl, kg⟩
            have G5 := Lib.hid kg
            clear kg
            go_wp2_with fail
            go_meet
            exact ⟨rfl, rfl, G5.out⟩
          · have hkk : m.kind = 4 := by omega
            have hfn := HFQ.out
            rw [hkk] at hfn
            change Value.func (.func 90) #[] #[] = _ at hfn
            have hho : hO L s v m now = (st, dd, s2, L2, v2) := HO.out
            unfold hO at hho
            rw [if_neg (by omega : ¬ m.kind = 1), if_neg (by omega : ¬ m.kind = 2), if_neg (by omega : ¬ m.kind = 3)] at hho
            simp only [Prod.mk.injEq] at hho
            obtain ⟨h1, h2, h3, h4, h5⟩ := hho
            have HC := Lib.hid (show Calls Tryz.prog 90 #[.pointer (some ⟨tb, 0, none⟩), .agg #[.int .i64 m.kind, .int .i64 m.src, .int .i64 m.dst, .int .i64 m.epoch, .int .i64 m.seq, .int .i64 m.off, .int .i64 m.len, .string m.data], .int .i64 now] w4 fun e w' => e = .returned (.tuple #[.string dd, .int .i64 st]) ∧ Goes F w4 w' ((SVo tb id s2 L2 v2 (N + 1)).at_ w') from by
              refine (onEpoch_any S4.out m now).mono ?_
              rintro e w' ⟨rfl, kg⟩
              replace kg := Goes.mono1 kg
              exact ⟨by rw [h1, h2], by rw [← h3, ← h4, ← h5]; exact kg⟩)
            clear h1 h2 h3 h4 h5 hkk hkq
            subst hfn
            go_wp2_with fail
            go_at_call 90
            refine HC.out.mono ?_
            rintro e w5 ⟨rfl, kg⟩
            have G5 := Lib.hid kg
            clear kg
            go_wp2_with fail
            go_meet
            exact ⟨rfl, rfl, G5.out⟩
        case rest =>
          obtain ⟨rfl, rfl, hg⟩ := hcut
          have hkp := Goes.kp hg
          have M5 := Lib.hid (M4.out.kept (hkp.block _ M4.out.lt HMn.out))
          have Z5 := Lib.hid (Z4.out.kept (hkp.block _ Z4.out.lt HRn.out))
          have K5 := Lib.hid (Keeps.below_then B4.out hkp)
          have hz4 := B4.out.size
          have hzM := M4.out.lt
          have hzZ := Z4.out.lt
          obtain ⟨F5, g5, g6, -⟩ := hg
          have G5 := Lib.hid g5
          have HF5 := Lib.hid (show ∀ k, F5 k → F k ∨ w.heap.size ≤ k from fun k hk => (g6 k hk).imp (fun h => h) (fun h => Nat.le_trans hz4 h))
          have HR5 := Lib.hid (show ¬ F5 (w.heap.size + 1) from fun e => by
            rcases g6 _ e with e | e
            · exact HRn.out e
            · omega)
          clear d0 d1 d2 d3 d4 d5 d6 d7 hkp g5 g6 S4 M4 Z4 E4 T4 hz4 hzM hzZ
          generalize wc = w5 at G5 M5 Z5 K5 ⊢
          obtain ⟨pb, sb, mb, ub, kb, odd, lost, F1, Fp, hSf, hH, hl, hP, -⟩ := SVo.parts G5.out
          obtain ⟨c0, c1, -, c3, -⟩ := hH.cells
          have HDd := Lib.hid (dead_any pb s2 Fp w5 hP)
          have H5 := Lib.hid hH
          clear hSf hH hl hP
          have hhO : hO L s v m now = (st, dd, s2, L2, v2) := HO.out
          have e2 := HS.out.symm.trans (show hS id s L v m now = (s2, L2, v2) from (if_pos HHH.out).trans (by rw [hhO]))
          simp only [Prod.mk.injEq] at e2
          obtain ⟨rfl, rfl, rfl⟩ := e2
          have hha : hA id s L v m now = if rs.gone = false then (⟨m.kind + 128, id, m.src, rv.ep, m.seq, m.off, st, dd⟩, true) else (M.zero, false) := by
            unfold hA
            rw [hhO]
            by_cases hq : rs.gone = false
            · rw [if_pos hq, if_pos ⟨HHH.out, hq⟩]
            · rw [if_neg hq, if_neg (fun e => hq e.2)]
          have e1 := HA.out.symm.trans hha
          clear HA HS hhO hha
          go_wp2_with fail
          go_at_call 15
          refine HDd.out.mono ?_
          rintro e w6 ⟨rfl, rfl⟩
          cases hgn : rs.gone with
          | true =>
            rw [hgn, if_neg (by simp)] at e1
            simp only [Prod.mk.injEq] at e1
            obtain ⟨rfl, rfl⟩ := e1
            go_wp2_with ((with_reducible show wpList _ _ _ (Oper.mk none (Op.store _ (.tmp 6) _) _ _ _ _ :: _) _ _); refine wpList_store_msg rfl (.tmp 6) (.tmp 57) rfl (w.heap.size + 1) M.zero M.zero rfl rfl Z5.out ?_; intro wF k1 k2 k3; have RF := Lib.hid k1; have FF := Lib.hid k2; clear k1 k2 k3)
            have dd := fun j => RF.out.cell j
            have d0 := dd 0
            have d1 := dd 1
            have d2 := dd 2
            have d3 := dd 3
            have d4 := dd 4
            have d5 := dd 5
            have d6 := dd 6
            have d7 := dd 7
            refine bodyPost_ret (v := .tuple #[M.zero.val, .bool false]) (by simp [results, Tryz.results24, go_sem, d0, d1, d2, d3, d4, d5, d6, d7]) rfl ⟨rfl, ?_⟩
            have hk := FF.out.kps
            exact ⟨F5, (SVo tb id rs rl rv (N + 1)).keeps G5.out hk (fun k hk e => HR5.out (e ▸ hk)), HF5.out, K5.out.trans hk (fun k e => .inr (by rw [e]; exact Nat.le_succ _))⟩
          | false =>
            rw [hgn, if_pos rfl] at e1
            simp only [Prod.mk.injEq] at e1
            obtain ⟨hea, rfl⟩ := e1
            have hw : IntKind.i64.wrap (m.kind + 128) = m.kind + 128 := IntWalk.i64_in _ (by omega)
            have HRp := Lib.hid (show ∀ V, Calls Tryz.prog 59 #[.agg #[.int .i64 m.kind, .int .i64 m.src, .int .i64 m.dst, .int .i64 m.epoch, .int .i64 m.seq, .int .i64 m.off, .int .i64 m.len, .string m.data], .int .i64 (m.kind + 128)] V fun e w' => e = .returned (.agg #[.int .i64 (m.kind + 128), .int .i64 m.dst, .int .i64 m.src, .int .i64 m.epoch, .int .i64 m.seq, .int .i64 0, .int .i64 0, .string ⟨#[]⟩]) ∧ Below V.heap.size V w' from fun V => reply_any m (m.kind + 128) V)
            have d0 := M5.out.cell 0
            have d1 := M5.out.cell 1
            have d2 := M5.out.cell 2
            have d3 := M5.out.cell 3
            have d4 := M5.out.cell 4
            have d5 := M5.out.cell 5
            have d6 := M5.out.cell 6
            have d7 := M5.out.cell 7
            go_wp2_with fail
            go_at_call 59
            refine (HRp.out _).mono ?_
            rintro e w7 ⟨rfl, hb7⟩
            clear d0 d1 d2 d3 d4 d5 d6 d7 HRp HDd
            have hz7 := hb7.size
            go_wp2_with ((with_reducible show wpList _ _ _ (Oper.mk none (Op.store _ (.tmp 12) _) _ _ _ _ :: _) _ _); refine wpList_store_msg rfl (.tmp 12) (.tmp 62) rfl w7.heap.size (m.reply (m.kind + 128)) M.zero rfl rfl (MB.fresh w7 M.zero) ?_; intro w8 k1 k2 k3; have D8 := Lib.hid k1; have B8 := Lib.hid ((hb7.alloc hb7.size (.cells M.zero.cells 31)).trans (Fb.below k2 hz7 (by simp; omega))); clear k1 k2 k3)
            clear hb7
            generalize w7.heap.size = D at hz7 D8 ⊢
            have hbd : Below w8.heap.size w8 w8.drew := (Below.refl _ _).drew
            have D9 := Lib.hid (D8.out.below hbd)
            have B9 := Lib.hid (B8.out.trans (hbd.mono B8.out.size))
            have c3' : w8.drew.cell? ⟨tb, 3, none⟩ = some (.int .i64 rv.ep) := (B9.out.cell (p := ⟨tb, 3, none⟩) (cell_lt c3)).trans c3
            have d5' : w8.drew.cell? ⟨w.heap.size, 5, none⟩ = some (.int .i64 m.off) := (M5.out.below B9.out).cell 5
            have z3 := D9.out.cell 3
            have z5 := D9.out.cell 5
            have tf3 := D8.out.free 3
            have tf5 := D8.out.free 5
            have y3 := D8.out.cell 3
            have y5 := D8.out.cell 5
            have c3 : w8.cell? ⟨tb, 3, none⟩ = some (.int .i64 rv.ep) := c3'
            have d5 : w8.cell? ⟨w.heap.size, 5, none⟩ = some (.int .i64 m.off) := d5'
            clear hbd c0 c1
            go_region
            all_goals
             as_aux_lemma =>
              have D10 := Lib.hid (show MB ((w8.setCell ⟨D, 3, none⟩ (.int .i64 rv.ep)).setCell ⟨D, 5, none⟩ (.int .i64 m.off)).drew D ⟨m.kind + 128, m.dst, m.src, rv.ep, m.seq, m.off, 0, ⟨#[]⟩⟩ from (D8.out.set 3 (by omega) rv.ep).set 5 (by omega) m.off)
              have B10 := Lib.hid (show Below w5.heap.size w5 ((w8.setCell ⟨D, 3, none⟩ (.int .i64 rv.ep)).setCell ⟨D, 5, none⟩ (.int .i64 m.off)).drew from ((B8.out.setCell hz7 _).setCell hz7 _).drew)
              clear D8 B8 D9 B9 tf3 tf5 y3 y5 c3 c3' d5 d5' z3 z5
              generalize ((w8.setCell ⟨D, 3, none⟩ (.int .i64 rv.ep)).setCell ⟨D, 5, none⟩ (.int .i64 m.off)).drew = wX at D10 B10 ⊢
              have y0 : wX.cell? ⟨D, 0, none⟩ = some (.int .i64 (m.kind + 128)) := D10.out.cell 0
              have y1 : wX.cell? ⟨D, 1, none⟩ = some (.int .i64 m.dst) := D10.out.cell 1
              have y2 : wX.cell? ⟨D, 2, none⟩ = some (.int .i64 m.src) := D10.out.cell 2
              have y3 : wX.cell? ⟨D, 3, none⟩ = some (.int .i64 rv.ep) := D10.out.cell 3
              have y4 : wX.cell? ⟨D, 4, none⟩ = some (.int .i64 m.seq) := D10.out.cell 4
              have y5 : wX.cell? ⟨D, 5, none⟩ = some (.int .i64 m.off) := D10.out.cell 5
              have y6 : wX.cell? ⟨D, 6, none⟩ = some (.int .i64 0) := D10.out.cell 6
              have y7 : wX.cell? ⟨D, 7, none⟩ = some (.string ⟨#[]⟩) := D10.out.cell 7
              have tf6 := D10.out.free 6
              have tf7 := D10.out.free 7
              have B12 := Lib.hid (show Below w5.heap.size w5 ((wX.setCell ⟨D, 6, none⟩ (.int .i64 st)).setCell ⟨D, 7, none⟩ (.string dd)) from (B10.out.setCell hz7 _).setCell hz7 _)
              have Z12 := Lib.hid (Z5.out.below B12.out)
              have D12 := Lib.hid (show MB ((wX.setCell ⟨D, 6, none⟩ (.int .i64 st)).setCell ⟨D, 7, none⟩ (.string dd)) D ⟨m.kind + 128, m.dst, m.src, rv.ep, m.seq, m.off, st, dd⟩ from (D10.out.set 6 (by omega) st).data dd)
              go_upto_region 10 with fail
              clear y0 y1 y2 y3 y4 y5 y6 y7 tf6 tf7 B10 D10
              generalize (wX.setCell ⟨D, 6, none⟩ (.int .i64 st)).setCell ⟨D, 7, none⟩ (.string dd) = wY at D12 B12 Z12 ⊢
              have y0 : wY.cell? ⟨D, 0, none⟩ = some (.int .i64 (m.kind + 128)) := D12.out.cell 0
              have y1 : wY.cell? ⟨D, 1, none⟩ = some (.int .i64 m.dst) := D12.out.cell 1
              have y2 : wY.cell? ⟨D, 2, none⟩ = some (.int .i64 m.src) := D12.out.cell 2
              have y3 : wY.cell? ⟨D, 3, none⟩ = some (.int .i64 rv.ep) := D12.out.cell 3
              have y4 : wY.cell? ⟨D, 4, none⟩ = some (.int .i64 m.seq) := D12.out.cell 4
              have y5 : wY.cell? ⟨D, 5, none⟩ = some (.int .i64 m.off) := D12.out.cell 5
              have y6 : wY.cell? ⟨D, 6, none⟩ = some (.int .i64 st) := D12.out.cell 6
              have y7 : wY.cell? ⟨D, 7, none⟩ = some (.string dd) := D12.out.cell 7
              go_wp2_with ((with_reducible show wpList _ _ _ (Oper.mk none (Op.store _ (.tmp 6) _) _ _ _ _ :: _) _ _); refine wpList_store_msg rfl (.tmp 6) (.tmp 75) rfl (w.heap.size + 1) ⟨m.kind + 128, m.dst, m.src, rv.ep, m.seq, m.off, st, dd⟩ M.zero rfl rfl Z12.out ?_; intro wF k1 k2 k3; have RF := Lib.hid k1; have FF := Lib.hid k2; clear k1 k2 k3)
              clear y0 y1 y2 y3 y4 y5 y6 y7
              have d0 := RF.out.cell 0
              have d1 := RF.out.cell 1
              have d2 := RF.out.cell 2
              have d3 := RF.out.cell 3
              have d4 := RF.out.cell 4
              have d5 := RF.out.cell 5
              have d6 := RF.out.cell 6
              have d7 := RF.out.cell 7
              refine bodyPost_ret (v := .tuple #[(⟨m.kind + 128, m.dst, m.src, rv.ep, m.seq, m.off, st, dd⟩ : M).val, .bool true]) (by simp [results, Tryz.results24, go_sem, d0, d1, d2, d3, d4, d5, d6, d7]) rfl ⟨by rw [hea, ← HHH.out.2.2.1], ?_⟩
              have hk := FF.out.kps
              exact ⟨F5, (SVo tb id rs rl rv (N + 1)).keeps ((SVo tb id rs rl rv (N + 1)).below G5.out B12.out) hk (fun k hk e => HR5.out (e ▸ hk)), HF5.out, (K5.out.then_below B12.out).trans hk (fun k e => .inr (by rw [e]; exact Nat.le_succ _))⟩
end
end Go.Proofs.YtmmpknfkncgjpaaGreatDoor
