/-
  WRITE of the package's server, by a contract.
-/
import Derived.Test.YtmmpknfkncgjpaaGreatDoorM44
namespace Go.Proofs.YtmmpknfkncgjpaaGreatDoor
open Go.RowKit

theorem store2 {w : World} {g : Nat} {x0 x1 : Value} {t : TypeId} (h : w.heap[g]? = some (.cells #[x0, x1] t (0, 0))) (a b : Value) :
    ((w.setCell ⟨g, 0, none⟩ a).setCell ⟨g, 1, none⟩ b).heap[g]? = some (.cells #[a, b] t (0, 0)) ∧ w.grownBy ((w.setCell ⟨g, 0, none⟩ a).setCell ⟨g, 1, none⟩ b) (some g) := by
  have h1 := heap_setCell_same w g 0 _ _ a h
  have h2 := heap_setCell_same _ g 1 _ _ b h1
  refine ⟨h2, rfl, rfl, rfl, by simp, fun k hk hne => ?_⟩
  have hkg : k ≠ g := fun e => hne (by rw [e])
  have hs : ∀ (W : World) (o : Nat) (v : Value), (W.setCell ⟨g, o, none⟩ v).heap[k]? = W.heap[k]? := fun W o v => Below.heap_setCell _ _ _ _ hkg
  rw [hs, hs]
theorem lt_of {w : World} {b : Nat} {o : Obj} (h : w.heap[b]? = some o) : b < w.heap.size := (Array.getElem?_eq_some_iff.1 h).1

section
variable {w : World} {tb : Nat} {id : Int} {s : St} {L : Lay} {v : Sv} {N : Nat} {F : Nat → Prop}
set_option maxRecDepth 100000 in
set_option maxHeartbeats 4000000 in
theorem onWrite_any (h : (SVo tb id s L v N).at_ w F) (hE : ErrType w) (hT : Tab w) (hF : ¬ F 1) {n c : Nat} (hR : Rest s n c) (hc : c ≤ 900000) (hL : L.length = n) (hN : N < 900000) (hv : v.tm.length = 8) (m : M) (hm : m.chk = 0) (now : Int) :
    Calls Tryz.prog 88 #[.pointer (some ⟨tb, 0, none⟩), m.val, .int .i64 now] w fun e w' => e = .returned (.tuple #[.string ⟨#[]⟩, .int .i64 (wrtO L s v m now).1]) ∧ Goes F w w' ((SVo tb id (wrtO L s v m now).2.1 (wrtO L s v m now).2.2.1 { v with kn := (wrtO L s v m now).2.2.2 } (N + 1)).at_ w') := by
  have hb0 : Below w.heap.size w (w.alloc (.cells m.cells 31)) := (Below.refl _ _).alloc (Nat.le_refl _) _
  have B0 := Lib.hid hb0
  have M0 := Lib.hid (Mat.fresh w m 31)
  have S0 := Lib.hid ((SVo tb id s L v N).below h hb0)
  have E0 := Lib.hid (hE.below hb0)
  have T0 := Lib.hid (hT.below hb0)
  have HF := Lib.hid hF
  have HFw := Lib.hid (fun k (e : F k) => (SVo tb id s L v N).lt h k e)
  have HFz := Lib.hid (fun (e : F w.heap.size) => Nat.lt_irrefl _ ((SVo tb id s L v N).lt h _ e))
  have HRs := Lib.hid hR
  have hioff : i64 m.off := (chk_off hm).2.2
  have hdsz : m.data.size ≤ 1024 := (chk_off hm).1
  obtain ⟨hs0, hs7, hisrc⟩ := chk_src hm
  obtain ⟨ra, rs, rl, rk, hr⟩ : ∃ a b c d, wrtO L s v m now = (a, b, c, d) := ⟨_, _, _, _, rfl⟩
  rw [hr]
  have HR := Lib.hid hr
  clear h hb0 hr hT hF hE hR
  go_enter Tryz.func88, Tryz.ntmps88
  go_wp2_with fail
  generalize w.alloc (.cells m.cells 31) = w1 at B0 M0 S0 E0 T0 ⊢
  have d3 : w1.cell? ⟨w.heap.size, 3, none⟩ = some (.int .i64 m.epoch) := M0.out.1 3 (by omega)
  obtain ⟨pb, sb, mb, ub, kb, odd, lost, F1, Fp, -, hH, -⟩ := SVo.parts S0.out
  obtain ⟨-, -, -, c3, -⟩ := hH.cells
  clear hH
  by_cases he : m.epoch = v.ep
  case neg =>
    have hd : (m.epoch != v.ep) = true := by simp [he]
    have hE := HR.out.symm.trans (show wrtO L s v m now = (120, s, L, v.kn) by
      unfold wrtO; rw [if_pos he])
    simp only [Prod.mk.injEq] at hE
    obtain ⟨rfl, rfl, rfl, rfl⟩ := hE
    go_quiet (fail)
    go_wp2
    go_ret2
    exact ⟨rfl, Ob.still _ (SVo.mono S0.out (Nat.le_succ _)) B0.out (below_drewN (Below.refl _ _) _)⟩
  have hd : (m.epoch != v.ep) = false := by simp [he]
  go_quiet (fail)
  have hbq : Below w1.heap.size w1 (w1.drewN nq) := below_drewN (Below.refl _ _) nq
  have S2 := Lib.hid ((SVo tb id s L v N).below S0.out hbq)
  have B2 := Lib.hid (B0.out.trans (hbq.mono B0.out.size))
  have M2 := Lib.hid (M0.out.below hbq)
  have E2 := Lib.hid (E0.out.below hbq)
  have T2 := Lib.hid (T0.out.below hbq)
  clear hbq d3 c3 hd M0 S0 B0 E0 T0
  generalize w1.drewN nq = w2 at S2 B2 M2 E2 T2 ⊢
  have d7 : w2.cell? ⟨w.heap.size, 7, none⟩ = some (.string m.data) := M2.out.2
  go_wp2_with fail
  go_at_call 21
  refine (parse13_any m.data w2 E2.out (by omega)).mono ?_
  rintro e w3 ⟨rfl, hb3⟩
  have S3 := Lib.hid ((SVo tb id s L v N).below S2.out hb3)
  have B3 := Lib.hid (B2.out.trans (hb3.mono B2.out.size))
  have M3 := Lib.hid (M2.out.below hb3)
  have T3 := Lib.hid (T2.out.below hb3)
  clear hb3 d7 M2 S2 B2 E2 T2
  cases hp : parOf m.data with
  | none =>
    have hq := parO_none hp
    have hE := HR.out.symm.trans (show wrtO L s v m now = (30, s, L, v.kn) by
      unfold wrtO; rw [if_neg (by simp [he]), hq]; rfl)
    simp only [Prod.mk.injEq] at hE
    obtain ⟨rfl, rfl, rfl, rfl⟩ := hE
    rw [hq]
    go_wp2
    go_ret2
    exact ⟨rfl, Ob.still _ (SVo.mono S3.out (Nat.le_succ _)) B3.out (Below.refl _ _)⟩
  | some x =>
    obtain ⟨n1, d1⟩ := x
    have hq := parO_some hp
    rw [hq]
    have hbd : Below w3.heap.size w3 w3.drew := (Below.refl _ _).drew
    have S4 := Lib.hid ((SVo tb id s L v N).below S3.out hbd)
    have B4 := Lib.hid (B3.out.trans (hbd.mono B3.out.size))
    have M4 := Lib.hid (M3.out.below hbd)
    have T4 := Lib.hid (T3.out.below hbd)
    obtain ⟨pb, sb, mb, ub, kb, odd, lost, F1, Fp, -, hH, -⟩ := SVo.parts S4.out
    have hlk : ∃ x ok, (Instr.lookup 39 (.map (some ub)) (.int .i64 m.src) true).run Tryz.prog w3.drew = .ok (.tuple #[.int .i64 x, .bool ok]) w3.drew ∧ ((ok = true ∧ x = v.tm.getD m.src.toNat (-1) ∧ 0 ≤ v.tm.getD m.src.toNat (-1)) ∨ (ok = false ∧ v.tm.getD m.src.toNat (-1) < 0)) := by
      have h1 := hH.um.look hisrc
      by_cases ht : 0 ≤ v.tm.getD m.src.toNat (-1)
      · rw [show gU v.tm m.src = some (v.tm.getD m.src.toNat (-1)) from if_pos ⟨hs0, by omega, ht⟩] at h1
        exact ⟨_, _, h1, .inl ⟨rfl, rfl, ht⟩⟩
      · rw [show gU v.tm m.src = none from if_neg (by omega)] at h1
        exact ⟨_, _, h1, .inr ⟨rfl, by omega⟩⟩
    obtain ⟨x, ok, hlk, hor⟩ := hlk
    have LK := Lib.hid hlk
    have C4 := Lib.hid hH.cells.2.2.2.2.1
    have c4 : w3.cell? ⟨tb, 4, none⟩ = some (.map (some ub)) := C4.out
    have d1' : w3.cell? ⟨w.heap.size, 1, none⟩ = some (.int .i64 m.src) := M3.out.1 1 (by omega)
    have D1 := Lib.hid (show w3.drew.cell? ⟨w.heap.size, 1, none⟩ = some (.int .i64 m.src) from M4.out.1 1 (by omega))
    clear hH hlk S3 B3 M3 T3 hbd
    go_wp2_with fail
    go_region_held3 (fun w' => w'.cell? ⟨tb, 4, none⟩ = some (.map (some ub)) ∧ w'.cell? ⟨w.heap.size, 1, none⟩ = some (.int .i64 m.src) ∧ (Instr.lookup 39 (.map (some ub)) (.int .i64 m.src) true).run Tryz.prog w' = .ok (.tuple #[.int .i64 x, .bool ok]) w')
      (first | exact ⟨C4.out, D1.out, LK.out⟩ | fail)
      (fail)
    clear C4 LK D1 c4 d1'
    generalize w3.drew = w4 at S4 B4 M4 T4 ⊢
    rcases hor with ⟨rfl, rfl, ht⟩ | ⟨rfl, ht⟩
    case inr =>
      have hE := HR.out.symm.trans (show wrtO L s v m now = (140, s, L, v.kn) by
        unfold wrtO; rw [if_neg (by simp [he]), hq, if_neg (by simp), if_pos (.inl ht)])
      simp only [Prod.mk.injEq] at hE
      obtain ⟨rfl, rfl, rfl, rfl⟩ := hE
      go_wp2
      go_ret2
      exact ⟨rfl, Ob.still _ (SVo.mono S4.out (Nat.le_succ _)) B4.out (Below.refl _ _)⟩
    case inl =>
      obtain ⟨t, hte⟩ : ∃ t, v.tm.getD m.src.toNat (-1) = t := ⟨_, rfl⟩
      rw [hte] at ht ⊢
      by_cases hnow : t < now
      · have hd : decide (t < now) = true := decide_eq_true hnow
        have hE := HR.out.symm.trans (show wrtO L s v m now = (140, s, L, v.kn) by
          unfold wrtO; rw [if_neg (by simp [he]), hq, if_neg (by simp), if_pos (.inr (by rw [hte]; exact hnow))])
        simp only [Prod.mk.injEq] at hE
        obtain ⟨rfl, rfl, rfl, rfl⟩ := hE
        go_wp2
        go_ret2
        exact ⟨rfl, Ob.still _ (SVo.mono S4.out (Nat.le_succ _)) B4.out (Below.refl _ _)⟩
      have hd : decide (t < now) = false := decide_eq_false hnow
      have htm : ¬ (v.tm.getD m.src.toNat (-1) < 0 ∨ now > v.tm.getD m.src.toNat (-1)) := by rw [hte]; omega
      obtain ⟨pb, sb, mb, ub, kb, odd, lost, F1, Fp, -, hH, -⟩ := SVo.parts S4.out
      have hlk : ∃ kq ke ok, (∀ V, Below w4.heap.size w4 V → (Instr.lookup 40 (.map (some kb)) (.int .i64 m.src) true).run Tryz.prog V = .ok (.tuple #[.agg #[.int .i64 kq, .int .i64 ke], .bool ok]) V) ∧ ((ok = false ∧ look v.kn m.src = none) ∨ (ok = true ∧ ∃ k, look v.kn m.src = some k ∧ kq = k.q ∧ ke = k.e)) := by
        have h1 := fun V (hV : Below w4.heap.size w4 V) => (hH.km.below hV).look hisrc
        cases hk : look v.kn m.src with
        | none =>
          rw [show gK v.kn m.src = none by unfold gK; rw [hk]; rfl] at h1
          exact ⟨_, _, _, h1, .inl ⟨rfl, rfl⟩⟩
        | some k =>
          rw [show gK v.kn m.src = some (k.q, k.e) by unfold gK; rw [hk]; rfl] at h1
          exact ⟨_, _, _, h1, .inr ⟨rfl, k, rfl, rfl, rfl⟩⟩
      obtain ⟨kq, ke, ok, hlk, hor⟩ := hlk
      have LK := Lib.hid hlk
      have C5 := Lib.hid hH.cells.2.2.2.2.2
      have c5 : w4.cell? ⟨tb, 5, none⟩ = some (.map (some kb)) := C5.out
      have d1' : w4.cell? ⟨w.heap.size, 1, none⟩ = some (.int .i64 m.src) := M4.out.1 1 (by omega)
      have D1 := Lib.hid d1'
      clear hH hlk
      go_wp2_with fail
      go_cut [13, 14] from 50 to 59 (fun pv ov wx => ∃ D : Nat, pv = .pointer (some ⟨D, 0, none⟩) ∧ ov = .bool ok ∧ wx.heap[D]? = some (.cells #[.int .i64 kq, .int .i64 ke] 195 (0, 0)) ∧ w4.heap.size ≤ D ∧ Below w4.heap.size w4 wx)
      case first =>
        have HH := Lib.hid (show ∀ V, Below w4.heap.size w4 V → V.cell? ⟨tb, 5, none⟩ = some (.map (some kb)) ∧ V.cell? ⟨w.heap.size, 1, none⟩ = some (.int .i64 m.src) ∧ (Instr.lookup 40 (.map (some kb)) (.int .i64 m.src) true).run Tryz.prog V = .ok (.tuple #[.agg #[.int .i64 kq, .int .i64 ke], .bool ok]) V from fun V h => ⟨(h.cell (p := ⟨tb, 5, none⟩) (cell_lt C5.out)).trans C5.out, (h.cell (p := ⟨w.heap.size, 1, none⟩) (cell_lt D1.out)).trans D1.out, LK.out V h⟩)
        have Bz := Lib.hid ((Below.refl w4.heap.size w4).drew)
        go_region_held3 (fun w' => w'.cell? ⟨tb, 5, none⟩ = some (.map (some kb)) ∧ w'.cell? ⟨w.heap.size, 1, none⟩ = some (.int .i64 m.src) ∧ (Instr.lookup 40 (.map (some kb)) (.int .i64 m.src) true).run Tryz.prog w' = .ok (.tuple #[.agg #[.int .i64 kq, .int .i64 ke], .bool ok]) w')
          (first | exact HH.out _ Bz.out | exact HH.out _ (Bz.out.alloc Bz.out.size _) | fail)
          (fail)
        all_goals
          clear HH
          go_wp2_with fail
          go_meet
          exact ⟨_, rfl, rfl, heap_alloc_new _ _, Bz.out.size, Bz.out.alloc Bz.out.size _⟩
      case rest =>
        obtain ⟨D, rfl, rfl, hK, hD, hb⟩ := hcut
        have Kc := Lib.hid hK
        have Sc := Lib.hid ((SVo tb id s L v N).below S4.out hb)
        have Bc := Lib.hid (B4.out.trans (hb.mono B4.out.size))
        have Mc := Lib.hid (M4.out.below hb)
        have Tc := Lib.hid (T4.out.below hb)
        have hDz : w.heap.size < D := Nat.lt_of_lt_of_le M4.out.lt hD
        have HFD := Lib.hid (show ¬ F D from fun e => by have := HFw.out D e; omega)
        clear hK hD hb S4 B4 M4 T4 LK C5 D1 c5 d1'
        have z0 := cell_of_row _ _ 0 _ _ _ Kc.out
        have z1 := cell_of_row _ _ 1 _ _ _ Kc.out
        have q4 : wc.cell? ⟨w.heap.size, 4, none⟩ = some (.int .i64 m.seq) := Mc.out.1 4 (by omega)
        rcases hor with ⟨rfl, hlk3⟩ | ⟨rfl, k, hlk3, hkq, hke⟩
        · have hlk4 : ∀ k, look v.kn m.src = some k → ¬ k.q > m.seq ∧ ¬ k.q = m.seq := fun k hk => by rw [hlk3] at hk; cases hk
          have HKp := Lib.hid (show Calls Tryz.prog 119 #[.pointer (some ⟨tb, 0, none⟩), .agg #[.int .i64 m.off, .int .i64 n1, .string d1]] wc _ from keep_any Sc.out Tc.out HF.out HRs.out hc hL (b := ⟨m.off, n1, d1⟩) hioff)
          have q5 : wc.cell? ⟨w.heap.size, 5, none⟩ = some (.int .i64 m.off) := Mc.out.1 5 (by omega)
          go_wp2_with fail
          go_at_call 119
          refine HKp.out.mono ?_
          rintro e w5 ⟨rfl, kg⟩
          have KD := Lib.hid (show w5.heap[D]? = some (.cells #[.int .i64 kq, .int .i64 ke] 195 (0, 0)) from ((Goes.kp kg).block D (lt_of Kc.out) HFD.out).trans Kc.out)
          have M5 := Lib.hid (show w5.heap[w.heap.size]? = wc.heap[w.heap.size]? from (Goes.kp kg).block w.heap.size Mc.out.lt HFz.out)
          have B5 := Lib.hid (show Keeps F w w5 from Keeps.below_then Bc.out (Goes.kp kg))
          obtain ⟨F5, g5, g6, -⟩ := kg
          have HF5 := Lib.hid (show ∀ k, F5 k → F k ∨ w.heap.size ≤ k from fun k hk => (g6 k hk).imp (fun h => h) (fun h => Nat.le_trans Bc.out.size h))
          have HD5 := Lib.hid (show ¬ F5 D from fun e => by
            rcases g6 D e with e | e
            · exact HFD.out e
            · exact absurd (lt_of Kc.out) (Nat.not_lt.2 e))
          have HM5 := Lib.hid (show ¬ F5 w.heap.size from fun e => by
            rcases g6 _ e with e | e
            · exact HFz.out e
            · exact absurd Mc.out.lt (Nat.not_lt.2 e))
          have HDz := Lib.hid (show w.heap.size < D from hDz)
          obtain ⟨we, ws, wl, hw⟩ : ∃ a b c, wDo L s ⟨m.off, n1, d1⟩ = (a, b, c) := ⟨_, _, _, rfl⟩
          rw [hw] at g5 ⊢
          have hE := HR.out.symm.trans ((wrtO_do (L := L) (s := s) (v := v) (m := m) (now := now) he (by rw [hq]) (by have := htm; omega) (fun k hk => ⟨by have := (hlk4 k hk).1; omega, (hlk4 k hk).2⟩)).trans (by rw [hq, hw]))
          simp only [Prod.mk.injEq] at hE
          obtain ⟨rfl, rfl, rfl, rfl⟩ := hE
          have G5 := Lib.hid g5
          have hc4 : ∀ j, w5.cell? ⟨w.heap.size, j, none⟩ = wc.cell? ⟨w.heap.size, j, none⟩ := fun j => by unfold World.cell?; rw [M5.out]
          have q4 : w5.cell? ⟨w.heap.size, 4, none⟩ = some (.int .i64 m.seq) := (hc4 4).trans (Mc.out.1 4 (by omega))
          have q1 : w5.cell? ⟨w.heap.size, 1, none⟩ = some (.int .i64 m.src) := (hc4 1).trans (Mc.out.1 1 (by omega))
          have z0 := cell_of_row _ _ 0 _ _ _ KD.out
          have z1 := cell_of_row _ _ 1 _ _ _ KD.out
          have tf : ∀ j, w5.frozen? ⟨D, j, none⟩ = false := fun j => by unfold World.frozen?; simp only [KD.out]; simp
          have tf0 := tf 0
          have tf1 := tf 1
          obtain ⟨r1, r2⟩ := store2 KD.out (.int .i64 m.seq) (.int .i64 ra)
          have hk5 : Keeps (fun k => k = D) w5 ((w5.setCell ⟨D, 0, none⟩ (.int .i64 m.seq)).setCell ⟨D, 1, none⟩ (.int .i64 ra)) := (Keeps.refl _ w5).grown r2 (fun g hg => .inl (Option.some.inj hg).symm)
          have G6 := Lib.hid ((SVo tb id rs rl v N).keeps G5.out hk5 (fun k hk e => HD5.out (e ▸ hk)))
          have B6 := Lib.hid (B5.out.grown r2 (fun g hg => .inr (by cases hg; exact Nat.le_of_lt HDz.out)))
          have q1' := (r2.block w.heap.size (World.block_lt_of_cell? _ _ q1) (fun e => by have := Option.some.inj e; have := HDz.out; omega))
          have Q1 := Lib.hid ((show ((w5.setCell ⟨D, 0, none⟩ (.int .i64 m.seq)).setCell ⟨D, 1, none⟩ (.int .i64 ra)).cell? ⟨w.heap.size, 1, none⟩ = w5.cell? ⟨w.heap.size, 1, none⟩ by unfold World.cell?; rw [q1']).trans q1)
          have R1 := Lib.hid r1
          clear g5 g6 HKp q5 r1 r2 hk5 q1' hc4 tf hw HR KD G5 B5 M5
          go_wp2_with fail
          clear z0 z1 tf0 tf1 q1 q4
          generalize (w5.setCell ⟨D, 0, none⟩ (.int .i64 m.seq)).setCell ⟨D, 1, none⟩ (.int .i64 ra) = w6 at G6 B6 Q1 R1 ⊢
          have hbd : Below w6.heap.size w6 w6.drew := (Below.refl _ _).drew
          have G7 := Lib.hid ((SVo tb id rs rl v N).below G6.out hbd)
          obtain ⟨pb, sb, mb, ub, kb, odd, lost, F1, Fp, hS, hH, hl, hP, hF1, hFp, ft, fu, fk, hnt, k1, k2, k3⟩ := SVo.parts G7.out
          have c5 : w6.drew.cell? ⟨tb, 5, none⟩ = some (.map (some kb)) := hH.cells.2.2.2.2.2
          have Q1' : w6.drew.cell? ⟨w.heap.size, 1, none⟩ = some (.int .i64 m.src) := Q1.out
          have z0 : w6.drew.cell? ⟨D, 0, none⟩ = some (.int .i64 m.seq) := cell_of_row _ _ 0 _ _ _ R1.out
          have z1 : w6.drew.cell? ⟨D, 1, none⟩ = some (.int .i64 ra) := cell_of_row _ _ 1 _ _ _ R1.out
          obtain ⟨w7, hrun, hm7, ht7⟩ := hH.km.put (n := m.src) hisrc (by omega) (m.seq, ra)
          have hgk := gK_learn v.kn ⟨m.src, m.seq, ra⟩
          have hm8 : Mp elW w7 kb (gK (learn v.kn ⟨m.src, m.seq, ra⟩)) (N + 1) := by rw [← hgk]; exact hm7
          have q : (Instr.mapUpdate 40 (.map (some kb)) (.int .i64 m.src) (.agg #[.int .i64 m.seq, .int .i64 ra])).run Tryz.prog w6.drew = .ok () w7 := hrun
          have K := Lib.hid (k3 w7 _ (N + 1) ((Keeps.refl _ w6.drew).grown ht7.grown (fun g hg => .inl (.inr (.inr (Option.some.inj hg).symm)))) (hH.kturn ht7 hm8 (Nat.le_succ _)))
          have hDk : D ≠ kb := fun e => HD5.out (e ▸ fk)
          have y1 : w7.cell? ⟨D, 1, none⟩ = some (.int .i64 ra) := by
            have := ht7.grown.block D (World.block_lt_of_cell? _ _ z1) (fun e => hDk (Option.some.inj e))
            unfold World.cell? at z1 ⊢
            rw [this]; exact z1
          have Y1 := Lib.hid y1
          have GF := Lib.hid (Goes.trans HF5.out (B6.out.then_below hbd) K.out)
          clear hS hH hl hP k1 k2 k3 hF1 hFp ft fu fk hnt hrun hm7 hm8 ht7 hgk hDk y1 hbd G6 G7 B6 Q1 R1 K
          go_region
          go_wp2_with fail
          clear c5 Q1' z0 z1 q
          have y1 := Y1.out
          go_quiet (fail)
          go_wp2
          go_ret2
          exact ⟨rfl, Goes.behind _ GF.out (below_drewN (Below.refl _ _) _)⟩
        · subst hkq hke
          by_cases h1 : m.seq < k.q
          · have hd1 : decide (m.seq < k.q) = true := decide_eq_true h1
            have hE := HR.out.symm.trans (show wrtO L s v m now = (5, s, L, v.kn) by
              unfold wrtO; rw [if_neg (by simp [he]), hq, if_neg (by simp), if_neg htm, hlk3]; exact if_pos (by omega))
            simp only [Prod.mk.injEq] at hE
            obtain ⟨rfl, rfl, rfl, rfl⟩ := hE
            go_wp2
            go_ret2
            exact ⟨rfl, Ob.still _ (SVo.mono Sc.out (Nat.le_succ _)) Bc.out (Below.refl _ _)⟩
          have hd1 : decide (m.seq < k.q) = false := decide_eq_false h1
          by_cases h2 : k.q < m.seq
          · have hd2 : decide (k.q < m.seq) = true := decide_eq_true h2
            have hlk4 : ∀ k, look v.kn m.src = some k → ¬ k.q > m.seq ∧ ¬ k.q = m.seq := fun k hk => by rw [hlk3] at hk; cases hk; omega
            have HKp := Lib.hid (show Calls Tryz.prog 119 #[.pointer (some ⟨tb, 0, none⟩), .agg #[.int .i64 m.off, .int .i64 n1, .string d1]] wc _ from keep_any Sc.out Tc.out HF.out HRs.out hc hL (b := ⟨m.off, n1, d1⟩) hioff)
            have q5 : wc.cell? ⟨w.heap.size, 5, none⟩ = some (.int .i64 m.off) := Mc.out.1 5 (by omega)
            go_wp2_with fail
            go_at_call 119
            refine HKp.out.mono ?_
            rintro e w5 ⟨rfl, kg⟩
            have KD := Lib.hid (show w5.heap[D]? = some (.cells #[.int .i64 k.q, .int .i64 k.e] 195 (0, 0)) from ((Goes.kp kg).block D (lt_of Kc.out) HFD.out).trans Kc.out)
            have M5 := Lib.hid (show w5.heap[w.heap.size]? = wc.heap[w.heap.size]? from (Goes.kp kg).block w.heap.size Mc.out.lt HFz.out)
            have B5 := Lib.hid (show Keeps F w w5 from Keeps.below_then Bc.out (Goes.kp kg))
            obtain ⟨F5, g5, g6, -⟩ := kg
            have HF5 := Lib.hid (show ∀ k, F5 k → F k ∨ w.heap.size ≤ k from fun k hk => (g6 k hk).imp (fun h => h) (fun h => Nat.le_trans Bc.out.size h))
            have HD5 := Lib.hid (show ¬ F5 D from fun e => by
              rcases g6 D e with e | e
              · exact HFD.out e
              · exact absurd (lt_of Kc.out) (Nat.not_lt.2 e))
            have HM5 := Lib.hid (show ¬ F5 w.heap.size from fun e => by
              rcases g6 _ e with e | e
              · exact HFz.out e
              · exact absurd Mc.out.lt (Nat.not_lt.2 e))
            have HDz := Lib.hid (show w.heap.size < D from hDz)
            obtain ⟨we, ws, wl, hw⟩ : ∃ a b c, wDo L s ⟨m.off, n1, d1⟩ = (a, b, c) := ⟨_, _, _, rfl⟩
            rw [hw] at g5 ⊢
            have hE := HR.out.symm.trans ((wrtO_do (L := L) (s := s) (v := v) (m := m) (now := now) he (by rw [hq]) (by have := htm; omega) (fun k hk => ⟨by have := (hlk4 k hk).1; omega, (hlk4 k hk).2⟩)).trans (by rw [hq, hw]))
            simp only [Prod.mk.injEq] at hE
            obtain ⟨rfl, rfl, rfl, rfl⟩ := hE
            have G5 := Lib.hid g5
            have hc4 : ∀ j, w5.cell? ⟨w.heap.size, j, none⟩ = wc.cell? ⟨w.heap.size, j, none⟩ := fun j => by unfold World.cell?; rw [M5.out]
            have q4 : w5.cell? ⟨w.heap.size, 4, none⟩ = some (.int .i64 m.seq) := (hc4 4).trans (Mc.out.1 4 (by omega))
            have q1 : w5.cell? ⟨w.heap.size, 1, none⟩ = some (.int .i64 m.src) := (hc4 1).trans (Mc.out.1 1 (by omega))
            have z0 := cell_of_row _ _ 0 _ _ _ KD.out
            have z1 := cell_of_row _ _ 1 _ _ _ KD.out
            have tf : ∀ j, w5.frozen? ⟨D, j, none⟩ = false := fun j => by unfold World.frozen?; simp only [KD.out]; simp
            have tf0 := tf 0
            have tf1 := tf 1
            obtain ⟨r1, r2⟩ := store2 KD.out (.int .i64 m.seq) (.int .i64 ra)
            have hk5 : Keeps (fun k => k = D) w5 ((w5.setCell ⟨D, 0, none⟩ (.int .i64 m.seq)).setCell ⟨D, 1, none⟩ (.int .i64 ra)) := (Keeps.refl _ w5).grown r2 (fun g hg => .inl (Option.some.inj hg).symm)
            have G6 := Lib.hid ((SVo tb id rs rl v N).keeps G5.out hk5 (fun k hk e => HD5.out (e ▸ hk)))
            have B6 := Lib.hid (B5.out.grown r2 (fun g hg => .inr (by cases hg; exact Nat.le_of_lt HDz.out)))
            have q1' := (r2.block w.heap.size (World.block_lt_of_cell? _ _ q1) (fun e => by have := Option.some.inj e; have := HDz.out; omega))
            have Q1 := Lib.hid ((show ((w5.setCell ⟨D, 0, none⟩ (.int .i64 m.seq)).setCell ⟨D, 1, none⟩ (.int .i64 ra)).cell? ⟨w.heap.size, 1, none⟩ = w5.cell? ⟨w.heap.size, 1, none⟩ by unfold World.cell?; rw [q1']).trans q1)
            have R1 := Lib.hid r1
            clear g5 g6 HKp q5 r1 r2 hk5 q1' hc4 tf hw HR KD G5 B5 M5
            go_wp2_with fail
            clear z0 z1 tf0 tf1 q1 q4
            generalize (w5.setCell ⟨D, 0, none⟩ (.int .i64 m.seq)).setCell ⟨D, 1, none⟩ (.int .i64 ra) = w6 at G6 B6 Q1 R1 ⊢
            have hbd : Below w6.heap.size w6 w6.drew := (Below.refl _ _).drew
            have G7 := Lib.hid ((SVo tb id rs rl v N).below G6.out hbd)
            obtain ⟨pb, sb, mb, ub, kb, odd, lost, F1, Fp, hS, hH, hl, hP, hF1, hFp, ft, fu, fk, hnt, k1, k2, k3⟩ := SVo.parts G7.out
            have c5 : w6.drew.cell? ⟨tb, 5, none⟩ = some (.map (some kb)) := hH.cells.2.2.2.2.2
            have Q1' : w6.drew.cell? ⟨w.heap.size, 1, none⟩ = some (.int .i64 m.src) := Q1.out
            have z0 : w6.drew.cell? ⟨D, 0, none⟩ = some (.int .i64 m.seq) := cell_of_row _ _ 0 _ _ _ R1.out
            have z1 : w6.drew.cell? ⟨D, 1, none⟩ = some (.int .i64 ra) := cell_of_row _ _ 1 _ _ _ R1.out
            obtain ⟨w7, hrun, hm7, ht7⟩ := hH.km.put (n := m.src) hisrc (by omega) (m.seq, ra)
            have hgk := gK_learn v.kn ⟨m.src, m.seq, ra⟩
            have hm8 : Mp elW w7 kb (gK (learn v.kn ⟨m.src, m.seq, ra⟩)) (N + 1) := by rw [← hgk]; exact hm7
            have q : (Instr.mapUpdate 40 (.map (some kb)) (.int .i64 m.src) (.agg #[.int .i64 m.seq, .int .i64 ra])).run Tryz.prog w6.drew = .ok () w7 := hrun
            have K := Lib.hid (k3 w7 _ (N + 1) ((Keeps.refl _ w6.drew).grown ht7.grown (fun g hg => .inl (.inr (.inr (Option.some.inj hg).symm)))) (hH.kturn ht7 hm8 (Nat.le_succ _)))
            have hDk : D ≠ kb := fun e => HD5.out (e ▸ fk)
            have y1 : w7.cell? ⟨D, 1, none⟩ = some (.int .i64 ra) := by
              have := ht7.grown.block D (World.block_lt_of_cell? _ _ z1) (fun e => hDk (Option.some.inj e))
              unfold World.cell? at z1 ⊢
              rw [this]; exact z1
            have Y1 := Lib.hid y1
            have GF := Lib.hid (Goes.trans HF5.out (B6.out.then_below hbd) K.out)
            clear hS hH hl hP k1 k2 k3 hF1 hFp ft fu fk hnt hrun hm7 hm8 ht7 hgk hDk y1 hbd G6 G7 B6 Q1 R1 K
            go_region
            go_wp2_with fail
            clear c5 Q1' z0 z1 q
            have y1 := Y1.out
            go_quiet (fail)
            go_wp2
            go_ret2
            exact ⟨rfl, Goes.behind _ GF.out (below_drewN (Below.refl _ _) _)⟩
          · have hd2 : decide (k.q < m.seq) = false := decide_eq_false h2
            have hE := HR.out.symm.trans (show wrtO L s v m now = (k.e, s, L, v.kn) by
              unfold wrtO; rw [if_neg (by simp [he]), hq, if_neg (by simp), if_neg htm, hlk3]; show (if _ then _ else _) = _; rw [if_neg (by omega), if_pos (by omega)])
            simp only [Prod.mk.injEq] at hE
            obtain ⟨rfl, rfl, rfl, rfl⟩ := hE
            go_wp2_with fail
            go_quiet (fail)
            go_wp2
            go_ret2
            exact ⟨rfl, Ob.still _ (SVo.mono Sc.out (Nat.le_succ _)) Bc.out (below_drewN (Below.refl _ _) _)⟩
end
end Go.Proofs.YtmmpknfkncgjpaaGreatDoor
