/-
  READ and keep of the package's server, and its little calls, by contracts.

  The little calls of the package's server (Get, Put, Drop, List), by contracts.
-/
import Derived.Test.YtmmpknfkncgjpaaGreatDoorM43
import Derived.Test.YtmmpknfkncgjpaaGreatDoorM24
import Derived.Test.YtmmpknfkncgjpaaGreatDoorM33
import Derived.Test.YtmmpknfkncgjpaaGreatDoorM34
import Derived.Deep.RegionHeld3
import Derived.Deep.CutRange
namespace Go.Proofs.YtmmpknfkncgjpaaGreatDoor
open Go.RowKit

theorem store3 {w : World} {g : Nat} {x0 x1 x2 : Value} {t : TypeId} (h : w.heap[g]? = some (.cells #[x0, x1, x2] t (0, 0))) (a b c : Value) :
    (((w.setCell ⟨g, 0, none⟩ a).setCell ⟨g, 1, none⟩ b).setCell ⟨g, 2, none⟩ c).heap[g]? = some (.cells #[a, b, c] t (0, 0)) ∧ w.grownBy (((w.setCell ⟨g, 0, none⟩ a).setCell ⟨g, 1, none⟩ b).setCell ⟨g, 2, none⟩ c) (some g) := by
  have h1 := heap_setCell_same w g 0 _ _ a h
  have h2 := heap_setCell_same _ g 1 _ _ b h1
  have h3 := heap_setCell_same _ g 2 _ _ c h2
  refine ⟨h3, rfl, rfl, rfl, by simp, fun k hk hne => ?_⟩
  have hkg : k ≠ g := fun e => hne (by rw [e])
  have hs : ∀ (W : World) (o : Nat) (v : Value), (W.setCell ⟨g, o, none⟩ v).heap[k]? = W.heap[k]? := fun W o v => Below.heap_setCell _ _ _ _ hkg
  rw [hs, hs, hs]
theorem Goes.kp {F : Nat → Prop} {w w' : World} {Q : (Nat → Prop) → Prop} (h : Goes F w w' Q) : Keeps F w w' := by obtain ⟨_, _, _, k⟩ := h; exact k

section
variable {w : World} {tb : Nat} {id : Int} {s : St} {L : Lay} {v : Sv} {N : Nat} {F : Nat → Prop}
set_option maxRecDepth 100000 in
set_option maxHeartbeats 4000000 in
theorem onRead_any (h : (SVo tb id s L v N).at_ w F) (m : M) (hm : m.chk = 0) (now : Int) :
    Calls Tryz.prog 87 #[.pointer (some ⟨tb, 0, none⟩), m.val, .int .i64 now] w fun e w' => e = .returned (.tuple #[.string (rdO L v m).2, .int .i64 (rdO L v m).1]) ∧ Below w.heap.size w w' := by
  have hb0 : Below w.heap.size w (w.alloc (.cells m.cells 31)) := (Below.refl _ _).alloc (Nat.le_refl _) _
  have B0 := Lib.hid hb0
  have M0 := Lib.hid (Mat.fresh w m 31)
  have S0 := Lib.hid ((SVo tb id s L v N).below h hb0)
  have hid : i64 m.off := (chk_off hm).2.2
  obtain ⟨ra, rd, hr⟩ : ∃ a d, rdO L v m = (a, d) := ⟨_, _, rfl⟩
  rw [hr]
  have HR := Lib.hid hr
  clear h hb0 hr hm
  go_enter Tryz.func87, Tryz.ntmps87
  go_wp2_with fail
  generalize w.alloc (.cells m.cells 31) = w1 at B0 M0 S0 ⊢
  have d3 : w1.cell? ⟨w.heap.size, 3, none⟩ = some (.int .i64 m.epoch) := M0.out.1 3 (by omega)
  obtain ⟨pb, sb, mb, ub, kb, odd, lost, F1, Fp, -, hH, -⟩ := SVo.parts S0.out
  obtain ⟨-, -, -, c3, -⟩ := hH.cells
  clear hH
  by_cases he : m.epoch = v.ep
  case neg =>
    have hd : (m.epoch != v.ep) = true := by simp [he]
    have hE := HR.out.symm.trans (show rdO L v m = (120, ⟨#[]⟩) from if_pos he)
    simp only [Prod.mk.injEq] at hE
    obtain ⟨rfl, rfl⟩ := hE
    go_quiet (fail)
    go_wp2
    go_ret2
    exact ⟨rfl, below_drewN B0.out _⟩
  have hd : (m.epoch != v.ep) = false := by simp [he]
  go_quiet (fail)
  have hbq : Below w1.heap.size w1 (w1.drewN nq) := below_drewN (Below.refl _ _) nq
  have S2 := Lib.hid ((SVo tb id s L v N).below S0.out hbq)
  have B2 := Lib.hid (B0.out.trans (hbq.mono B0.out.size))
  have M2 := Lib.hid (M0.out.below hbq)
  clear hbq d3 c3 hd M0 S0 B0
  generalize w1.drewN nq = w2 at S2 B2 M2 ⊢
  clear pb sb mb ub kb odd lost F1 Fp
  obtain ⟨pb, sb, mb, ub, kb, odd, lost, F1, Fp, hS, hH, -⟩ := SVo.parts S2.out
  obtain ⟨-, -, c2, -⟩ := hH.cells
  have d5 : w2.cell? ⟨w.heap.size, 5, none⟩ = some (.int .i64 m.off) := M2.out.1 5 (by omega)
  have HS := Lib.hid hS
  have HV := Lib.hid (fun b (hb : getL L m.off = some b) => stored_val hS hb)
  have hg : ∃ gb ge, getB L m.off = gb ∧ getE L m.off = ge ∧ ((getL L m.off = none ∧ gb = Bk.zero ∧ ge = 3) ∨ (getL L m.off = some gb ∧ ge = 0)) := by
    refine ⟨_, _, rfl, rfl, ?_⟩
    unfold getB getE
    cases getL L m.off with
    | none => exact .inl ⟨rfl, rfl, rfl⟩
    | some b => exact .inr ⟨rfl, rfl⟩
  obtain ⟨gb, ge, hgb, hge, hor⟩ := hg
  have HGt := Lib.hid (fun V (h : Below w2.heap.size w2 V) => (show Calls Tryz.prog 64 #[.pointer (some ⟨sb, 0, none⟩), .int .i64 m.off] V fun e w' => e = .returned (.tuple #[gb.val, .int .i64 ge]) ∧ Below V.heap.size V w' by
    have := get_any (hS.below h) hid
    rw [hgb, hge] at this
    exact this))
  clear hS hH hgb hge M2
  go_wp2_with fail
  go_cut [8, 9] from 17 to 26 (fun pv ev wx => ∃ D : Nat, pv = .pointer (some ⟨D, 0, none⟩) ∧ ev = .int .i64 ge ∧ AB wx D gb ∧ w2.heap.size ≤ D ∧ Below w2.heap.size w2 wx)
  case first =>
    have HH := Lib.hid (show ∀ V, Below w2.heap.size w2 V → V.cell? ⟨tb, 2, none⟩ = some (.pointer (some ⟨sb, 0, none⟩)) ∧ V.cell? ⟨w.heap.size, 5, none⟩ = some (.int .i64 m.off) from fun V h => ⟨(h.cell (p := ⟨tb, 2, none⟩) (cell_lt c2)).trans c2, (h.cell (p := ⟨w.heap.size, 5, none⟩) (cell_lt d5)).trans d5⟩)
    have B0 := Lib.hid ((Below.refl w2.heap.size w2).drew)
    have HGet := Lib.hid (fun V (h : Below w2.heap.size w2 V) => HGt.out V h)
    go_region_held3 (fun w' => w'.cell? ⟨tb, 2, none⟩ = some (.pointer (some ⟨sb, 0, none⟩)) ∧ w'.cell? ⟨w.heap.size, 5, none⟩ = some (.int .i64 m.off))
      (first | exact HH.out _ B3.out | exact HH.out _ B1.out | exact HH.out _ (B1.out.alloc B1.out.size _) | exact HH.out _ B0.out | exact HH.out _ (B0.out.alloc B0.out.size _) | fail)
      (first | (go_at_call 64; (first | ((with_reducible refine (HGet.out _ B0.out).mono ?_); rintro e V1 ⟨rfl, k2⟩; have B1 := Lib.hid (B0.out.trans (k2.mono B0.out.size)); clear k2) | ((with_reducible refine (HGet.out _ (B0.out.alloc B0.out.size (.cells #[.int .i64 0, .int .i64 0, .string ⟨#[]⟩] 34))).mono ?_); rintro e V1 ⟨rfl, k2⟩; (have hxD : V1.heap[w2.heap.size]? = some (.cells #[.int .i64 0, .int .i64 0, .string ⟨#[]⟩] 34 (0, 0)) := (k2.block w2.heap.size (by simp)).trans (heap_alloc_new _ _)); have B1 := Lib.hid ((B0.out.alloc B0.out.size (.cells #[.int .i64 0, .int .i64 0, .string ⟨#[]⟩] 34)).trans (k2.mono (B0.out.alloc B0.out.size (.cells #[.int .i64 0, .int .i64 0, .string ⟨#[]⟩] 34)).size)); have z0 := cell_of_row _ _ 0 _ _ _ hxD; have z1 := cell_of_row _ _ 1 _ _ _ hxD; have z2 := cell_of_row _ _ 2 _ _ _ hxD; (have tf : ∀ j, V1.frozen? ⟨w2.heap.size, j, none⟩ = false := fun j => by unfold World.frozen?; simp only [hxD]; simp); have tf0 := tf 0; have tf1 := tf 1; have tf2 := tf 2; (obtain ⟨r1, r2⟩ := store3 hxD (.int .i64 gb.id) (.int .i64 gb.ver) (.string gb.data)); have R6 := Lib.hid r1; have B3 := Lib.hid (B1.out.grown r2 B1.out.size (fun q hq => by cases hq; exact Nat.le_refl _)); clear k2 hxD tf r1 r2) | ((with_reducible refine (HGet.out _ ((Below.refl w2.heap.size w2).alloc (Nat.le_refl _) (.cells #[.int .i64 0, .int .i64 0, .string ⟨#[]⟩] 34)).drew).mono ?_); rintro e V1 ⟨rfl, k2⟩; (have hxD : V1.heap[w2.heap.size]? = some (.cells #[.int .i64 0, .int .i64 0, .string ⟨#[]⟩] 34 (0, 0)) := (k2.block w2.heap.size (by simp)).trans (heap_alloc_new _ _)); have B1 := Lib.hid (((Below.refl w2.heap.size w2).alloc (Nat.le_refl _) (.cells #[.int .i64 0, .int .i64 0, .string ⟨#[]⟩] 34)).drew.trans (k2.mono ((Below.refl w2.heap.size w2).alloc (Nat.le_refl _) (.cells #[.int .i64 0, .int .i64 0, .string ⟨#[]⟩] 34)).drew.size)); have z0 := cell_of_row _ _ 0 _ _ _ hxD; have z1 := cell_of_row _ _ 1 _ _ _ hxD; have z2 := cell_of_row _ _ 2 _ _ _ hxD; (have tf : ∀ j, V1.frozen? ⟨w2.heap.size, j, none⟩ = false := fun j => by unfold World.frozen?; simp only [hxD]; simp); have tf0 := tf 0; have tf1 := tf 1; have tf2 := tf 2; (obtain ⟨r1, r2⟩ := store3 hxD (.int .i64 gb.id) (.int .i64 gb.ver) (.string gb.data)); have R6 := Lib.hid r1; have B3 := Lib.hid (B1.out.grown r2 B1.out.size (fun q hq => by cases hq; exact Nat.le_refl _)); clear k2 hxD tf r1 r2))) | fail)
    all_goals
      clear HH HGet
      go_wp2_with fail
      go_meet
      first
        | exact ⟨_, rfl, rfl, R6.out, Nat.le_refl _, B3.out⟩
        | exact ⟨_, rfl, rfl, AB.fresh _ _, B1.out.size, B1.out.alloc B1.out.size _⟩
  case rest =>
    obtain ⟨D, rfl, rfl, hA, hD, hb⟩ := hcut
    have A3 := Lib.hid hA
    have B3 := Lib.hid (B2.out.trans (hb.mono B2.out.size))
    clear hA hb hD c2 d5 HGt HS S2
    rcases hor with ⟨h1, rfl, rfl⟩ | ⟨h1, rfl⟩
    · have hE := HR.out.symm.trans (show rdO L v m = (3, ⟨#[]⟩) by unfold rdO; rw [if_neg (by simp [he]), h1])
      simp only [Prod.mk.injEq] at hE
      obtain ⟨rfl, rfl⟩ := hE
      clear HR HV h1 A3
      go_wp2
      go_ret2
      exact ⟨rfl, B3.out⟩
    · have hE := HR.out.symm.trans (show rdO L v m = (0, valB gb.ver gb.data) by unfold rdO; rw [if_neg (by simp [he]), h1])
      simp only [Prod.mk.injEq] at hE
      obtain ⟨rfl, hrd⟩ := hE
      have hz := HV.out gb h1
      have HVl := Lib.hid (show ∀ V, Calls Tryz.prog 19 #[.int .i64 gb.ver, .string gb.data] V fun e w' => e = .returned (.tuple #[.string (valB gb.ver gb.data), .int .i64 0]) ∧ Below V.heap.size V w' from fun V => by
        have := value_any gb.ver gb.data V
        rw [show valO gb.ver gb.data = (valB gb.ver gb.data, 0) from if_pos hz] at this
        exact this)
      obtain ⟨e0, e1, e2⟩ := A3.out.all
      rw [← hrd] at HVl
      clear HR HV h1 hz A3 hrd
      go_wp2_with fail
      go_at_call 19
      refine (HVl.out _).mono ?_
      rintro e w4 ⟨rfl, k2⟩
      go_wp2
      go_ret2
      exact ⟨rfl, B3.out.trans (k2.mono B3.out.size)⟩
set_option maxRecDepth 100000 in
set_option maxHeartbeats 4000000 in
theorem keep_any (h : (SVo tb id s L v N).at_ w F) (hT : Tab w) (hF : ¬ F 1) {n c : Nat} (hR : Rest s n c) (hc : c ≤ 900000) (hL : L.length = n) {b : Bk} (hid : i64 b.id) :
    Calls Tryz.prog 119 #[.pointer (some ⟨tb, 0, none⟩), b.val] w fun e w' => e = .returned (.int .i64 (wDo L s b).1) ∧ Goes F w w' ((SVo tb id (wDo L s b).2.1 (wDo L s b).2.2 v N).at_ w') := by
  have hb0 : Below w.heap.size w (w.alloc (.cells b.cells 34)) := (Below.refl _ _).alloc (Nat.le_refl _) _
  have B2 := Lib.hid hb0
  have M2 := Lib.hid (AB.fresh w b)
  have S2 := Lib.hid ((SVo tb id s L v N).below h hb0)
  have T2 := Lib.hid (hT.below hb0)
  have HF := Lib.hid hF
  have HFz := Lib.hid (fun (e : F w.heap.size) => Nat.lt_irrefl _ ((SVo tb id s L v N).lt h _ e))
  have HRs := Lib.hid hR
  obtain ⟨ra, rs, rl, hr⟩ : ∃ a d l, wDo L s b = (a, d, l) := ⟨_, _, _, rfl⟩
  rw [hr]
  have HR := Lib.hid hr
  clear h hb0 hr hT hF hR
  go_enter Tryz.func119, Tryz.ntmps119
  go_wp2_with fail
  generalize w.alloc (.cells b.cells 34) = w2 at S2 B2 M2 T2 ⊢
  obtain ⟨pb, sb, mb, ub, kb, odd, lost, F1, Fp, hS, hH, -⟩ := SVo.parts S2.out
  obtain ⟨-, -, c2, -⟩ := hH.cells
  obtain ⟨d0, d1, d2⟩ := M2.out.all
  have hg : ∃ gb ge, getB L b.id = gb ∧ getE L b.id = ge ∧ ((getL L b.id = none ∧ gb = Bk.zero ∧ ge = 3) ∨ (getL L b.id = some gb ∧ ge = 0)) := by
    refine ⟨_, _, rfl, rfl, ?_⟩
    unfold getB getE
    cases getL L b.id with
    | none => exact .inl ⟨rfl, rfl, rfl⟩
    | some b => exact .inr ⟨rfl, rfl⟩
  obtain ⟨gb, ge, hgb, hge, hor⟩ := hg
  have HGt := Lib.hid (fun V (h : Below w2.heap.size w2 V) => (show Calls Tryz.prog 64 #[.pointer (some ⟨sb, 0, none⟩), .int .i64 b.id] V fun e w' => e = .returned (.tuple #[gb.val, .int .i64 ge]) ∧ Below V.heap.size V w' by
    have := get_any (hS.below h) hid
    rw [hgb, hge] at this
    exact this))
  have hnd : ((getL L b.id = some b) ↔ (ge = 0 ∧ gb = b)) := by
    rcases hor with ⟨h1, h2, h3⟩ | ⟨h1, h2⟩
    · rw [h1, h3]; simp
    · rw [h1, h2]; simp
  have HND := Lib.hid hnd
  have hge3 : ge = 0 ∨ ge = 3 := by
    rcases hor with ⟨h1, h2, h3⟩ | ⟨h1, h2⟩ <;> omega
  clear hS hH hgb hge hor hnd
  go_wp2_with fail
  go_cut [5, 6] from 7 to 16 (fun pv ev wx => ∃ D : Nat, pv = .pointer (some ⟨D, 0, none⟩) ∧ ev = .int .i64 ge ∧ AB wx D gb ∧ w2.heap.size ≤ D ∧ Below w2.heap.size w2 wx)
  case first =>
    have HH := Lib.hid (show ∀ V, Below w2.heap.size w2 V → V.cell? ⟨tb, 2, none⟩ = some (.pointer (some ⟨sb, 0, none⟩)) ∧ V.cell? ⟨w.heap.size, 0, none⟩ = some (.int .i64 b.id) from fun V h => ⟨(h.cell (p := ⟨tb, 2, none⟩) (cell_lt c2)).trans c2, (h.cell (p := ⟨w.heap.size, 0, none⟩) (cell_lt d0)).trans d0⟩)
    have B0 := Lib.hid ((Below.refl w2.heap.size w2).drew)
    have HGet := Lib.hid (fun V (h : Below w2.heap.size w2 V) => HGt.out V h)
    go_region_held3 (fun w' => w'.cell? ⟨tb, 2, none⟩ = some (.pointer (some ⟨sb, 0, none⟩)) ∧ w'.cell? ⟨w.heap.size, 0, none⟩ = some (.int .i64 b.id))
      (first | exact HH.out _ B3.out | exact HH.out _ B1.out | exact HH.out _ (B1.out.alloc B1.out.size _) | exact HH.out _ B0.out | exact HH.out _ (B0.out.alloc B0.out.size _) | fail)
      (first | (go_at_call 64; (first | ((with_reducible refine (HGet.out _ B0.out).mono ?_); rintro e V1 ⟨rfl, k2⟩; have B1 := Lib.hid (B0.out.trans (k2.mono B0.out.size)); clear k2) | ((with_reducible refine (HGet.out _ (B0.out.alloc B0.out.size (.cells #[.int .i64 0, .int .i64 0, .string ⟨#[]⟩] 34))).mono ?_); rintro e V1 ⟨rfl, k2⟩; (have hxD : V1.heap[w2.heap.size]? = some (.cells #[.int .i64 0, .int .i64 0, .string ⟨#[]⟩] 34 (0, 0)) := (k2.block w2.heap.size (by simp)).trans (heap_alloc_new _ _)); have B1 := Lib.hid ((B0.out.alloc B0.out.size (.cells #[.int .i64 0, .int .i64 0, .string ⟨#[]⟩] 34)).trans (k2.mono (B0.out.alloc B0.out.size (.cells #[.int .i64 0, .int .i64 0, .string ⟨#[]⟩] 34)).size)); have z0 := cell_of_row _ _ 0 _ _ _ hxD; have z1 := cell_of_row _ _ 1 _ _ _ hxD; have z2 := cell_of_row _ _ 2 _ _ _ hxD; (have tf : ∀ j, V1.frozen? ⟨w2.heap.size, j, none⟩ = false := fun j => by unfold World.frozen?; simp only [hxD]; simp); have tf0 := tf 0; have tf1 := tf 1; have tf2 := tf 2; (obtain ⟨r1, r2⟩ := store3 hxD (.int .i64 gb.id) (.int .i64 gb.ver) (.string gb.data)); have R6 := Lib.hid r1; have B3 := Lib.hid (B1.out.grown r2 B1.out.size (fun q hq => by cases hq; exact Nat.le_refl _)); clear k2 hxD tf r1 r2) | ((with_reducible refine (HGet.out _ ((Below.refl w2.heap.size w2).alloc (Nat.le_refl _) (.cells #[.int .i64 0, .int .i64 0, .string ⟨#[]⟩] 34)).drew).mono ?_); rintro e V1 ⟨rfl, k2⟩; (have hxD : V1.heap[w2.heap.size]? = some (.cells #[.int .i64 0, .int .i64 0, .string ⟨#[]⟩] 34 (0, 0)) := (k2.block w2.heap.size (by simp)).trans (heap_alloc_new _ _)); have B1 := Lib.hid (((Below.refl w2.heap.size w2).alloc (Nat.le_refl _) (.cells #[.int .i64 0, .int .i64 0, .string ⟨#[]⟩] 34)).drew.trans (k2.mono ((Below.refl w2.heap.size w2).alloc (Nat.le_refl _) (.cells #[.int .i64 0, .int .i64 0, .string ⟨#[]⟩] 34)).drew.size)); have z0 := cell_of_row _ _ 0 _ _ _ hxD; have z1 := cell_of_row _ _ 1 _ _ _ hxD; have z2 := cell_of_row _ _ 2 _ _ _ hxD; (have tf : ∀ j, V1.frozen? ⟨w2.heap.size, j, none⟩ = false := fun j => by unfold World.frozen?; simp only [hxD]; simp); have tf0 := tf 0; have tf1 := tf 1; have tf2 := tf 2; (obtain ⟨r1, r2⟩ := store3 hxD (.int .i64 gb.id) (.int .i64 gb.ver) (.string gb.data)); have R6 := Lib.hid r1; have B3 := Lib.hid (B1.out.grown r2 B1.out.size (fun q hq => by cases hq; exact Nat.le_refl _)); clear k2 hxD tf r1 r2))) | fail)
    all_goals
      clear HH HGet
      go_wp2_with fail
      go_meet
      first
        | exact ⟨_, rfl, rfl, R6.out, Nat.le_refl _, B3.out⟩
        | exact ⟨_, rfl, rfl, AB.fresh _ _, B1.out.size, B1.out.alloc B1.out.size _⟩
  case rest =>
    obtain ⟨D, rfl, rfl, hA, hD, hb⟩ := hcut
    have A3 := Lib.hid hA
    have M3 := Lib.hid (M2.out.below hb)
    have S3 := Lib.hid ((SVo tb id s L v N).below S2.out hb)
    have T3 := Lib.hid (T2.out.below hb)
    have B3 := Lib.hid (B2.out.trans (hb.mono B2.out.size))
    clear hA hb hD c2 d0 d1 d2 HGt S2 M2 B2 T2
    obtain ⟨e0, e1, e2⟩ := A3.out.all
    obtain ⟨d0, d1, d2⟩ := M3.out.all
    have heq := bk_eq gb b
    by_cases hq : ge = 0 ∧ gb = b
    · obtain ⟨rfl, rfl⟩ := hq
      have hE := HR.out.symm.trans (show wDo L s gb = (0, s, L) from if_pos (HND.out.2 ⟨rfl, rfl⟩))
      simp only [Prod.mk.injEq] at hE
      obtain ⟨rfl, rfl, rfl⟩ := hE
      rw [decide_eq_true rfl] at heq
      clear HR HND hge3
      go_wp2
      go_ret
      exact ⟨rfl, Ob.still _ S3.out B3.out (Below.refl _ _)⟩
    have hE := HR.out.symm.trans (show wDo L s b = (putE L s b, putS L s b, putY L s b) from if_neg (fun e => hq (HND.out.1 e)))
    simp only [Prod.mk.injEq] at hE
    obtain ⟨rfl, rfl, rfl⟩ := hE
    clear HR HND
    -- then it is put
    have hbd : Below wc.heap.size wc wc.drew := (Below.refl _ _).drew
    have S4 := Lib.hid ((SVo tb id s L v N).below S3.out hbd)
    have B4 := Lib.hid (B3.out.trans (hbd.mono B3.out.size))
    have M4 := Lib.hid (M3.out.below hbd)
    obtain ⟨pb, sb, mb, ub, kb, odd, lost, F1, Fp, hS, hH, hl, hP, hF1, hFp, ft, fu, fk, hnt, k1, k2, k3⟩ := SVo.parts S4.out
    have C4 := Lib.hid hH.cells.2.2.1
    obtain ⟨-, -, c2, -⟩ := (hH.cells)
    have c2' : wc.cell? ⟨tb, 2, none⟩ = some (.pointer (some ⟨sb, 0, none⟩)) := c2
    have HPut := Lib.hid (show Calls Tryz.prog 72 #[.pointer (some ⟨sb, 0, none⟩), .agg #[.int .i64 b.id, .int .i64 b.ver, .string b.data]] wc.drew _ from sput_any hS (T3.out.below hbd) (fun e => HF.out (hF1 _ e)) HRs.out hc hl hL hid)
    have K := Lib.hid (fun w' odd2 lost2 hh => k1 w' (putS L s b) (putY L s b) odd2 lost2 hh)
    have HLo := Lib.hid (show lostP lost (putE L s b) = true → (putS L s b).gone = true from fun e => by
      obtain ⟨q1, q2⟩ := put_lost HRs.out hL b
      rcases lostP_cases e with e | e
      · exact q1 (hl e)
      · exact q2 e)
    have HX := Lib.hid (show ∀ w', Keeps F1 wc.drew w' → (w'.cell? ⟨tb, 2, none⟩ = some (.pointer (some ⟨sb, 0, none⟩)) ∧ w'.cell? ⟨w.heap.size, 0, none⟩ = some (.int .i64 b.id) ∧ w'.cell? ⟨w.heap.size, 1, none⟩ = some (.int .i64 b.ver) ∧ w'.cell? ⟨w.heap.size, 2, none⟩ = some (.string b.data)) from fun w' kk =>
      ⟨kk.cell (a := ⟨tb, 2, none⟩) C4.out hnt, kk.cell (a := ⟨w.heap.size, 0, none⟩) M4.out.all.1 (fun e => HFz.out (hF1 _ e)), kk.cell (a := ⟨w.heap.size, 1, none⟩) M4.out.all.2.1 (fun e => HFz.out (hF1 _ e)), kk.cell (a := ⟨w.heap.size, 2, none⟩) M4.out.all.2.2 (fun e => HFz.out (hF1 _ e))⟩)
    clear hS hH hl hP k1 k2 k3 hF1 hFp ft fu fk hnt hbd S3 S4 T3 B3 HF HRs HFz
    rcases hge3 with rfl | rfl
    · rw [decide_eq_false (fun e => hq ⟨rfl, e⟩)] at heq
      go_wp2_with fail
      go_region_held3 (fun w' => w'.cell? ⟨tb, 2, none⟩ = some (.pointer (some ⟨sb, 0, none⟩)) ∧ w'.cell? ⟨w.heap.size, 0, none⟩ = some (.int .i64 b.id) ∧ w'.cell? ⟨w.heap.size, 1, none⟩ = some (.int .i64 b.ver) ∧ w'.cell? ⟨w.heap.size, 2, none⟩ = some (.string b.data))
        (first | exact X5.out | exact ⟨C4.out, M4.out.all⟩ | fail)
        (first | (go_at_call 72; refine HPut.out.mono ?_; rintro e w5 ⟨rfl, k⟩; have X5 := Lib.hid (HX.out _ (Goes.kp k)); have G5 := Lib.hid (K.out _ _ _ HLo.out k); clear k) | fail)
      go_wp2
      go_ret
      exact ⟨rfl, Goes.ahead B4.out G5.out⟩
    · go_wp2_with fail
      go_region_held3 (fun w' => w'.cell? ⟨tb, 2, none⟩ = some (.pointer (some ⟨sb, 0, none⟩)) ∧ w'.cell? ⟨w.heap.size, 0, none⟩ = some (.int .i64 b.id) ∧ w'.cell? ⟨w.heap.size, 1, none⟩ = some (.int .i64 b.ver) ∧ w'.cell? ⟨w.heap.size, 2, none⟩ = some (.string b.data))
        (first | exact X5.out | exact ⟨C4.out, M4.out.all⟩ | fail)
        (first | (go_at_call 72; refine HPut.out.mono ?_; rintro e w5 ⟨rfl, k⟩; have X5 := Lib.hid (HX.out _ (Goes.kp k)); have G5 := Lib.hid (K.out _ _ _ HLo.out k); clear k) | fail)
      go_wp2
      go_ret
      exact ⟨rfl, Goes.ahead B4.out G5.out⟩
end
end Go.Proofs.YtmmpknfkncgjpaaGreatDoor

namespace Go.Proofs.YtmmpknfkncgjpaaGreatDoor
open Go.RowKit

/-! ### as plain data -/
def gO (s : St) (L : Lay) (i : Int) : Bk × Int := if s.gone = true then (Bk.zero, 70) else (getB L i, getE L i)
noncomputable def pO (s : St) (L : Lay) (b : Bk) : Int × St × Lay := if s.gone = true then (70, s, L) else (putE L s b, putS L s b, putY L s b)
noncomputable def dO (s : St) (L : Lay) (i : Int) : Int × St × Lay := if s.gone = true then (70, s, L) else (dropE s i, dropS s i, dropY L s i)

section
variable {w : World} {tb : Nat} {id : Int} {s : St} {L : Lay} {v : Sv} {N : Nat} {F : Nat → Prop}
theorem pb_below {w w' : World} {b : Nat} {s : St} {F : Nat → Prop} (h : PB w b s F) (hb : Below w.heap.size w w') : PB w' b s F := h.keeps (Keeps.of_below (F := fun _ => False) hb) (fun _ _ h => h)
set_option maxRecDepth 100000 in
set_option maxHeartbeats 4000000 in
theorem svget_any (h : (SVo tb id s L v N).at_ w F) {i : Int} (hid : i64 i) :
    Calls Tryz.prog 27 #[.pointer (some ⟨tb, 0, none⟩), .int .i64 i] w fun e w' => e = .returned (.tuple #[(gO s L i).1.val, .int .i64 (gO s L i).2]) ∧ Below w.heap.size w w' := by
  have hb0 : Below w.heap.size w (w.alloc (.cells #[.int .i64 0, .int .i64 0, .string ⟨#[]⟩] 34)) := (Below.refl _ _).alloc (Nat.le_refl _) _
  have R1 := Lib.hid (show AB (w.alloc (.cells #[.int .i64 0, .int .i64 0, .string ⟨#[]⟩] 34)) w.heap.size Bk.zero from AB.fresh w Bk.zero)
  have B1 := Lib.hid hb0
  obtain ⟨pb, sb, mb, ub, kb, odd, lost, F1, Fp, hS, hH, hl, hP, -⟩ := SVo.parts ((SVo tb id s L v N).below h hb0)
  obtain ⟨c0, -, c2, -⟩ := hH.cells
  have HD := Lib.hid (dead_any pb s Fp _ hP)
  have HG := Lib.hid (get_any hS hid)
  have hg : ∃ gb ge, getB L i = gb ∧ getE L i = ge := ⟨_, _, rfl, rfl⟩
  obtain ⟨gb, ge, hgb, hge⟩ := hg
  unfold gO
  rw [hgb, hge] at HG ⊢
  clear hS hH hl hP hgb hge h hb0
  cases hgo : s.gone with
  | true =>
    rw [hgo] at HD
    rw [if_pos rfl]
    go_enter Tryz.func27, Tryz.ntmps27
    go_wp2_with fail
    generalize w.alloc (.cells #[.int .i64 0, .int .i64 0, .string ⟨#[]⟩] 34) = w1 at R1 B1 HD HG c0 c2 ⊢
    go_at_call 15
    refine HD.out.mono ?_
    rintro e w2 ⟨rfl, rfl⟩
    clear HD HG
    go_wp2_with ((with_reducible show wpList _ _ _ (Oper.mk none (Op.store _ (.tmp 4) _) _ _ _ _ :: _) _ _); refine wpList_store_bk rfl (.tmp 4) (.tmp 11) rfl w.heap.size Bk.zero Bk.zero rfl rfl R1.out ?_; intro wF k1 k2; obtain ⟨d0, d1, d2⟩ := k1.all; have BF := Lib.hid (B1.out.trans k2); clear k1 k2)
    exact bodyPost_ret (v := .tuple #[Bk.zero.val, .int .i64 70]) (by simp [results, Tryz.results27, go_sem, d0, d1, d2]) rfl ⟨rfl, BF.out⟩
  | false =>
    rw [hgo] at HD
    rw [if_neg (by simp)]
    go_enter Tryz.func27, Tryz.ntmps27
    go_wp2_with fail
    generalize w.alloc (.cells #[.int .i64 0, .int .i64 0, .string ⟨#[]⟩] 34) = w1 at R1 B1 HD HG c0 c2 ⊢
    go_at_call 15
    refine HD.out.mono ?_
    rintro e w2 ⟨rfl, rfl⟩
    go_wp2_with fail
    go_at_call 64
    refine HG.out.mono ?_
    rintro e w3 ⟨rfl, k2⟩
    have R3 := Lib.hid (R1.out.below k2)
    have B3 := Lib.hid (B1.out.trans (k2.mono B1.out.size))
    clear HD HG k2 R1 c0 c2
    go_wp2_with ((with_reducible show wpList _ _ _ (Oper.mk none (Op.store _ (.tmp 4) _) _ _ _ _ :: _) _ _); refine wpList_store_bk rfl (.tmp 4) (.tmp 18) rfl w.heap.size gb Bk.zero rfl rfl R3.out ?_; intro wF k1 k2; obtain ⟨d0, d1, d2⟩ := k1.all; have BF := Lib.hid (B3.out.trans k2); clear k1 k2)
    exact bodyPost_ret (v := .tuple #[gb.val, .int .i64 ge]) (by simp [results, Tryz.results27, go_sem, d0, d1, d2]) rfl ⟨rfl, BF.out⟩
theorem svlist_any (h : (SVo tb id s L v N).at_ w F) :
    Calls Tryz.prog 17 #[.pointer (some ⟨tb, 0, none⟩)] w fun e w' => ∃ v, e = .returned v ∧ OwnsB 34 w' w.heap.size v (listL L) ∧ Below w.heap.size w w' := by
  obtain ⟨pb, sb, mb, ub, kb, odd, lost, F1, Fp, hS, hH, -⟩ := SVo.parts h
  obtain ⟨-, -, c2, -⟩ := hH.cells
  have HL := Lib.hid (slist_any hS)
  clear hS hH h
  go_enter Tryz.func17, Tryz.ntmps17
  go_wp2_with fail
  go_at_call 41
  refine HL.out.mono ?_
  rintro e w2 ⟨x, rfl, k1, k2⟩
  go_wp2
  go_ret
  exact ⟨x, rfl, k1, k2⟩
set_option maxRecDepth 100000 in
set_option maxHeartbeats 4000000 in
theorem svput_any (h : (SVo tb id s L v N).at_ w F) (hT : Tab w) (hF : ¬ F 1) {n c : Nat} (hR : Rest s n c) (hc : c ≤ 900000) (hL : L.length = n) {b : Bk} (hid : i64 b.id) :
    Calls Tryz.prog 36 #[.pointer (some ⟨tb, 0, none⟩), b.val] w fun e w' => e = .returned (.int .i64 (pO s L b).1) ∧ Goes F w w' ((SVo tb id (pO s L b).2.1 (pO s L b).2.2 v N).at_ w') := by
  have hb0 : Below w.heap.size w (w.alloc (.cells b.cells 34)) := (Below.refl _ _).alloc (Nat.le_refl _) _
  have B2 := Lib.hid hb0
  have M2 := Lib.hid (AB.fresh w b)
  have S2 := Lib.hid ((SVo tb id s L v N).below h hb0)
  have T2 := Lib.hid (hT.below hb0)
  have HF := Lib.hid hF
  have HFz := Lib.hid (fun (e : F w.heap.size) => Nat.lt_irrefl _ ((SVo tb id s L v N).lt h _ e))
  obtain ⟨pb, sb, mb, ub, kb, odd, lost, F1, Fp, hS, hH, hl, hP, -⟩ := SVo.parts S2.out
  obtain ⟨c0, -, c2, -⟩ := hH.cells
  have HD := Lib.hid (dead_any pb s Fp _ hP)
  have HRs := Lib.hid hR
  clear h hb0 hT hF hR hS hH hl hP
  unfold pO
  cases hgo : s.gone with
  | true =>
    rw [hgo] at HD
    rw [if_pos rfl]
    go_enter Tryz.func36, Tryz.ntmps36
    go_wp2_with fail
    generalize w.alloc (.cells b.cells 34) = w2 at S2 B2 M2 T2 HD c0 c2 ⊢
    go_at_call 15
    refine HD.out.mono ?_
    rintro e w3 ⟨rfl, rfl⟩
    go_wp2
    go_ret
    exact ⟨rfl, Ob.still _ S2.out B2.out (Below.refl _ _)⟩
  | false =>
    rw [hgo] at HD
    rw [if_neg (by simp)]
    go_enter Tryz.func36, Tryz.ntmps36
    go_wp2_with fail
    generalize w.alloc (.cells b.cells 34) = w2 at S2 B2 M2 T2 HD c0 c2 ⊢
    go_at_call 15
    refine HD.out.mono ?_
    rintro e w3 ⟨rfl, rfl⟩
    have hbd : Below w2.heap.size w2 w2.drew := (Below.refl _ _).drew
    have S4 := Lib.hid ((SVo tb id s L v N).below S2.out hbd)
    have B4 := Lib.hid (B2.out.trans (hbd.mono B2.out.size))
    have M4 := Lib.hid (M2.out.below hbd)
    clear HD c0 c2
    obtain ⟨pb, sb, mb, ub, kb, odd, lost, F1, Fp, hS, hH, hl, hP, hF1, hFp, ft, fu, fk, hnt, k1, k2, k3⟩ := SVo.parts S4.out
    have C4 := Lib.hid hH.cells.2.2.1
    obtain ⟨-, -, c2, -⟩ := (hH.cells)
    have c2' : w2.cell? ⟨tb, 2, none⟩ = some (.pointer (some ⟨sb, 0, none⟩)) := c2
    obtain ⟨d0, d1, d2⟩ := M2.out.all
    have HPut := Lib.hid (show Calls Tryz.prog 72 #[.pointer (some ⟨sb, 0, none⟩), .agg #[.int .i64 b.id, .int .i64 b.ver, .string b.data]] w2.drew _ from sput_any hS (T2.out.below hbd) (fun e => HF.out (hF1 _ e)) HRs.out hc hl hL hid)
    have K := Lib.hid (fun w' odd2 lost2 hh => k1 w' (putS L s b) (putY L s b) odd2 lost2 hh)
    have HLo := Lib.hid (show lostP lost (putE L s b) = true → (putS L s b).gone = true from fun e => by
      obtain ⟨q1, q2⟩ := put_lost HRs.out hL b
      rcases lostP_cases e with e | e
      · exact q1 (hl e)
      · exact q2 e)
    have HX := Lib.hid (show ∀ w', Keeps F1 w2.drew w' → (w'.cell? ⟨tb, 2, none⟩ = some (.pointer (some ⟨sb, 0, none⟩)) ∧ w'.cell? ⟨w.heap.size, 0, none⟩ = some (.int .i64 b.id) ∧ w'.cell? ⟨w.heap.size, 1, none⟩ = some (.int .i64 b.ver) ∧ w'.cell? ⟨w.heap.size, 2, none⟩ = some (.string b.data)) from fun w' kk =>
      ⟨kk.cell (a := ⟨tb, 2, none⟩) C4.out hnt, kk.cell (a := ⟨w.heap.size, 0, none⟩) M4.out.all.1 (fun e => HFz.out (hF1 _ e)), kk.cell (a := ⟨w.heap.size, 1, none⟩) M4.out.all.2.1 (fun e => HFz.out (hF1 _ e)), kk.cell (a := ⟨w.heap.size, 2, none⟩) M4.out.all.2.2 (fun e => HFz.out (hF1 _ e))⟩)
    clear hS hH hl hP k1 k2 k3 hF1 hFp ft fu fk hnt hbd S2 S4 T2 HF HRs HFz
    go_wp2_with fail
    go_region_held3 (fun w' => w'.cell? ⟨tb, 2, none⟩ = some (.pointer (some ⟨sb, 0, none⟩)) ∧ w'.cell? ⟨w.heap.size, 0, none⟩ = some (.int .i64 b.id) ∧ w'.cell? ⟨w.heap.size, 1, none⟩ = some (.int .i64 b.ver) ∧ w'.cell? ⟨w.heap.size, 2, none⟩ = some (.string b.data))
      (first | exact X5.out | exact ⟨C4.out, M4.out.all⟩ | fail)
      (first | (go_at_call 72; refine HPut.out.mono ?_; rintro e w5 ⟨rfl, k⟩; have X5 := Lib.hid (HX.out _ (Goes.kp k)); have G5 := Lib.hid (K.out _ _ _ HLo.out k); clear k) | fail)
    go_wp2
    go_ret
    exact ⟨rfl, Goes.ahead B4.out G5.out⟩
set_option maxRecDepth 100000 in
set_option maxHeartbeats 4000000 in
theorem svdrop_any (h : (SVo tb id s L v N).at_ w F) (hT : Tab w) (hF : ¬ F 1) {n c : Nat} (hR : Rest s n c) (hc : c ≤ 900000) {i : Int} (hid : i64 i) :
    Calls Tryz.prog 38 #[.pointer (some ⟨tb, 0, none⟩), .int .i64 i] w fun e w' => e = .returned (.int .i64 (dO s L i).1) ∧ Goes F w w' ((SVo tb id (dO s L i).2.1 (dO s L i).2.2 v N).at_ w') := by
  obtain ⟨pb, sb, mb, ub, kb, odd, lost, F1, Fp, hS, hH, hl, hP, hF1, hFp, ft, fu, fk, hnt, k1, k2, k3⟩ := SVo.parts h
  obtain ⟨c0, -, c2, -⟩ := hH.cells
  have HD := Lib.hid (dead_any pb s Fp _ hP)
  have S2 := Lib.hid h
  have HDr := Lib.hid (sdrop_any hS hT (fun e => hF (hF1 _ e)) hR hc hl hid)
  have K := Lib.hid (fun w' odd2 lost2 hh => k1 w' (dropS s i) (dropY L s i) odd2 lost2 hh)
  have HLo := Lib.hid (show lost = true → (dropS s i).gone = true from fun e => (drop_lost hR i).1 (hl e))
  clear h hT hF hR hS hH hl hP k1 k2 k3 hF1 hFp ft fu fk hnt
  unfold dO
  cases hgo : s.gone with
  | true =>
    rw [hgo] at HD
    rw [if_pos rfl]
    go_enter Tryz.func38, Tryz.ntmps38
    go_wp2_with fail
    go_at_call 15
    refine HD.out.mono ?_
    rintro e w3 ⟨rfl, rfl⟩
    go_wp2
    go_ret
    exact ⟨rfl, Ob.still _ S2.out (Below.refl _ _) (Below.refl _ _)⟩
  | false =>
    rw [hgo] at HD
    rw [if_neg (by simp)]
    go_enter Tryz.func38, Tryz.ntmps38
    go_wp2_with fail
    go_at_call 15
    refine HD.out.mono ?_
    rintro e w3 ⟨rfl, rfl⟩
    go_wp2_with fail
    go_at_call 74
    refine HDr.out.mono ?_
    rintro e w5 ⟨rfl, k⟩
    have G5 := Lib.hid (K.out _ _ _ HLo.out k)
    clear k HD HDr K HLo S2
    go_wp2
    go_ret
    exact ⟨rfl, G5.out⟩
end
end Go.Proofs.YtmmpknfkncgjpaaGreatDoor
