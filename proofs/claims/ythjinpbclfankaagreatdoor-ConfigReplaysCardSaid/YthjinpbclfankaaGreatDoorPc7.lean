/-
  kinds, Apply (package config), by contracts.
-/
import Derived.Test.YthjinpbclfankaaGreatDoorPc6
import Derived.Laws.EntriesVeiled
import Derived.Deep.RegionWith
import Derived.Deep.CutRange
namespace Go.Proofs.YthjinpbclfankaaGreatDoor
open Go.RowKit

/-- What is told with an error: a config, and a number. -/
theorem results_cell_tmp {P : Program} {fn : Func} {p u : Tmp} {ty : TypeId} (h : fn.results = #[.cell p ty, .tmp u]) (tmps : Array Value) (w : World) (g : Nat) (t : TypeId) (cs : Array Value) (fr : Nat × Nat) (d : TypeDesc)
    (hp : tmps.getD p undef = .pointer (some ⟨g, 0, none⟩)) (hg : w.heap[g]? = some (.cells cs t fr))
    (hu : P.underlying ty = some d) (hd : (match d with | .struct _ | .array _ _ => true | _ => false) = true) (hi : (P.info? ty).map (·.size) = some cs.size) :
    (results fn tmps).run P w = .ok (.tuple #[.agg cs, tmps.getD u undef]) w := by
  have hp' : tmps[p]?.getD undef = .pointer (some ⟨g, 0, none⟩) := by simpa using hp
  simp [results, h, hp', asAddr, run_loadVar_row w g t ty cs fr d hg hu hd hi]
@[reducible] def vz : Value := .agg #[.int .i64 0, .slice none 0 0, .slice none 0 0, .int .i64 0]
theorem vz_ic (w : World) : IC w vz cfz := ⟨_, _, rfl, ⟨none, 0, rfl, fun i x hx => by simp [cfz] at hx⟩, ⟨none, 0, rfl, fun i x hx => by simp [cfz] at hx⟩⟩
theorem store4 {w : World} {g : Nat} {x0 x1 x2 x3 : Value} {t : TypeId} (h : w.heap[g]? = some (.cells #[x0, x1, x2, x3] t (0, 0))) (a b c d : Value) :
    ((((w.setCell ⟨g, 0, none⟩ a).setCell ⟨g, 1, none⟩ b).setCell ⟨g, 2, none⟩ c).setCell ⟨g, 3, none⟩ d).heap[g]? = some (.cells #[a, b, c, d] t (0, 0)) ∧ w.grownBy ((((w.setCell ⟨g, 0, none⟩ a).setCell ⟨g, 1, none⟩ b).setCell ⟨g, 2, none⟩ c).setCell ⟨g, 3, none⟩ d) (some g) := by
  have h1 := heap_setCell_same w g 0 _ _ a h
  have h2 := heap_setCell_same _ g 1 _ _ b h1
  have h3 := heap_setCell_same _ g 2 _ _ c h2
  have h4 := heap_setCell_same _ g 3 _ _ d h3
  refine ⟨h4, rfl, rfl, rfl, by simp, fun k hk hne => ?_⟩
  have hkg : k ≠ g := fun e => hne (by rw [e])
  rw [heap_set_eq hkg, heap_set_eq hkg, heap_set_eq hkg, heap_set_eq hkg]
theorem CBv.made {w : World} {B b : Nat} {c : Cf} {s0 p0 sv pv : Value} (hr : w.heap[b]? = some (.cells #[.int .i64 c.e, s0, p0, .int .i64 c.t] 45 (0, 0))) (hB : B ≤ w.heap.size) (oS : OwnsI w B sv c.srv) (oP : OwnsP 85 w B pv c.pts) :
    CBv ((w.setCell ⟨b, 1, none⟩ sv).setCell ⟨b, 2, none⟩ pv) B b c sv pv := by
  have h1 := heap_setCell_same w b 1 _ _ sv hr
  have h2 := heap_setCell_same _ b 2 _ _ pv h1
  refine ⟨h2, owns_kept oS fun g hk => ?_, owns_kept oP fun g hk => ?_, by simpa using hB⟩
  · have hne : g ≠ b := by
      obtain ⟨cur, hc⟩ := owns_type oS hk
      exact type_ne hc hr (by decide)
    rw [heap_set_eq hne, heap_set_eq hne]
  · have hne : g ≠ b := by
      obtain ⟨cur, hc⟩ := owns_type oP hk
      exact type_ne hc hr (by decide)
    rw [heap_set_eq hne, heap_set_eq hne]
theorem CBv.other {w w1 : World} {B b r : Nat} {c : Cf} {sv pv : Value} {cs : Array Value} (h : CBv w B b c sv pv) (hg : w.grownBy w1 (some r)) (hr : w.heap[r]? = some (.cells cs 45 (0, 0))) (hne : b ≠ r) : CBv w1 B b c sv pv := by
  refine ⟨(hg.block b h.lt (fun e => hne (by injection e))).trans h.row, owns_kept h.srv fun g hk => hg.block g (h.srv.lt hk).2 (fun e => ?_), owns_kept h.pts fun g hk => hg.block g (h.pts.lt hk).2 (fun e => ?_), Nat.le_trans h.lo hg.size⟩
  · injection e with e
    subst e
    obtain ⟨cur, hc⟩ := owns_type h.srv hk
    exact type_ne hc hr (by decide) rfl
  · injection e with e
    subst e
    obtain ⟨cur, hc⟩ := owns_type h.pts hk
    exact type_ne hc hr (by decide) rfl
theorem CBv.ic {w : World} {B b : Nat} {c : Cf} {sv pv : Value} (h : CBv w B b c sv pv) : IC w (.agg #[.int .i64 c.e, sv, pv, .int .i64 c.t]) c := ⟨sv, pv, rfl, h.srv.inI, h.pts.inP⟩
/-- A config's slices lie in another block. -/
def Off (v : Value) (b : Nat) : Prop := ∀ e sv pv t, v = .agg #[e, sv, pv, t] → sv.ownBlock ≠ some b ∧ pv.ownBlock ≠ some b
def OffK (w : World) (v v' : Value) : Prop := ∀ b, b < w.heap.size → Off v b → Off v' b
theorem vz_off (w : World) (v : Value) : OffK w v vz := fun b _ _ e sv pv t he => by
  simp only [Value.agg.injEq, Array.mk.injEq, List.cons.injEq, and_true] at he
  obtain ⟨-, rfl, rfl, -⟩ := he
  exact ⟨nofun, nofun⟩
theorem CBv.off {w w0 : World} {B b : Nat} {c : Cf} {sv pv : Value} (h : CBv w B b c sv pv) (hB : w0.heap.size ≤ B) (v : Value) (e t : Value) : OffK w0 v (.agg #[e, sv, pv, t]) := fun q hq _ e1 sv1 pv1 t1 he => by
  simp only [Value.agg.injEq, Array.mk.injEq, List.cons.injEq, and_true] at he
  obtain ⟨-, rfl, rfl, -⟩ := he
  exact ⟨fun e => by have := (OwnsI.lt h.srv e).1; omega, fun e => by have := (OwnsP.lt h.pts e).1; omega⟩
/-- A config stays what it is, where another block turns. -/
theorem IC.other {w w' : World} {v : Value} {c : Cf} {b : Nat} (h : IC w v c) (ho : Off v b) (hs : w.heap.size ≤ w'.heap.size) (hb : ∀ q, q < w.heap.size → q ≠ b → w'.heap[q]? = w.heap[q]?) : IC w' v c := by
  obtain ⟨sv, pv, rfl, ⟨A1, c1, rfl, h1⟩, ⟨A2, c2, rfl, h2⟩⟩ := h
  obtain ⟨o1, o2⟩ := ho _ _ _ _ rfl
  refine ⟨_, _, rfl, ⟨A1, c1, rfl, fun i x hx => ?_⟩, ⟨A2, c2, rfl, fun i p hp => ?_⟩⟩
  · obtain ⟨g, o, rfl, hg, hc⟩ := h1 i x hx
    refine ⟨g, o, rfl, Nat.lt_of_lt_of_le hg hs, ?_⟩
    rw [World.cell?_of_block (hb g hg (fun e => o1 (by rw [← e]; rfl)))]
    exact hc
  · obtain ⟨g, o, rfl, hg, q1, q2, q3, q4⟩ := h2 i p hp
    have hne : g ≠ b := fun e => o2 (by rw [← e]; rfl)
    refine ⟨g, o, rfl, Nat.lt_of_lt_of_le hg hs, ?_, ?_, ?_, ?_⟩
    · rw [World.cell?_of_block (hb g hg hne)]; exact q1
    · rw [World.cell?_of_block (hb g hg hne)]; exact q2
    · rw [World.cell?_of_block (hb g hg hne)]; exact q3
    · rw [World.cell?_of_block (hb g hg hne)]; exact q4
/-- The functions of the kinds of orders. -/
@[reducible] def kf (i : Nat) : Value := .func (.func (if i = 0 then 54 else if i = 1 then 55 else if i = 2 then 56 else 57)) #[] #[]
@[reducible] def kcs : Array Value := #[.func (.func 54) #[] #[], .func (.func 55) #[] #[], .func (.func 56) #[] #[], .func (.func 57) #[] #[]]
theorem kinds_any (w : World) : Calls Tryz.prog 42 #[] w fun e w' => e = .returned (.agg kcs) ∧ Below w.heap.size w w' := by
  go_enter Tryz.func42, Tryz.ntmps42
  go_wp2_with fail
  go_returns
  exact ⟨rfl, by go_grown⟩
/-- Each kind's change. -/
theorem change_any {w : World} {B b : Nat} {c : Cf} (h : CB w B b c) (hB : B ≤ w.heap.size) (hok : c.ok) (hpl : c.pts.length ≤ 10000) (o : Od) (f : FuncId) (hf : (o.k = 1 ∧ f = 54) ∨ (o.k = 2 ∧ f = 55) ∨ (o.k = 3 ∧ f = 56) ∨ (o.k = 4 ∧ f = 57)) :
    Calls Tryz.prog f #[.pointer (some ⟨b, 0, none⟩), o.val] w fun e w' => e = .returned (.int .i64 (change c o).1) ∧ ((change c o).1 = 0 → CB w' B b (change c o).2) ∧ Kp B b w w' := by
  obtain ⟨-, h2, h3, h4⟩ := hok
  rcases hf with ⟨hk, rfl⟩ | ⟨hk, rfl⟩ | ⟨hk, rfl⟩ | ⟨hk, rfl⟩
  · exact come_any h hB h2 h3 o hk
  · exact leave_any h hB h3 h2 h4 (by omega) o hk
  · exact place_any h hB h3 h4 hpl o hk
  · exact cut_any h hB o hk
theorem apl_no {c : Cf} {o : Od} (h : c.ok) (hm : ¬ c.e = 1099511627776) (he : ¬ (change c o).1 = 0) : apl c o = (cfz, (change c o).1) := by
  unfold apl; rw [if_pos h, if_neg hm, if_neg he]
theorem apl_yes {c : Cf} {o : Od} (h : c.ok) (hm : ¬ c.e = 1099511627776) (he : (change c o).1 = 0) : apl c o = ({ (change c o).2 with e := c.e + 1 }, 0) ∧ (change c o).2.e = c.e := by
  refine ⟨by unfold apl; rw [if_pos h, if_neg hm, if_pos he], (change_ok h o he).1⟩
set_option maxRecDepth 100000 in
set_option maxHeartbeats 4000000 in
theorem apply_any {w : World} {v : Value} {c : Cf} (h : IC w v c) (hl : c.srv.length ≤ 10000) (hp : c.pts.length ≤ 10000) (o : Od) :
    Calls Tryz.prog 27 #[v, o.val] w fun e w' => ∃ v', e = .returned (.tuple #[v', .int .i64 (apl c o).2]) ∧ IC w' v' (apl c o).1 ∧ Below w.heap.size w w' ∧ OffK w v v' := by
  have HCk := Lib.hid (fun (W : World) (hb : Below w.heap.size w W) => check_any (h.below hb) (by omega) (by omega))
  obtain ⟨sv, pv, rfl, HC⟩ := h.look
  obtain ⟨A1, c1, hA1, -⟩ := (HC.out _ (Below.refl _ _)).1
  obtain ⟨A2, c2, hA2, -⟩ := (HC.out _ (Below.refl _ _)).2
  subst hA1
  subst hA2
  clear h
  obtain ⟨ok, n, m, f, t⟩ := o
  show Calls _ _ #[_, .agg #[.int .i64 ok, .int .i64 n, .int .i64 m, .int .i64 f, .int .i64 t]] w _
  have hb1 : Below w.heap.size w (w.alloc (.cells #[.int .i64 c.e, .slice A1 c.srv.length c1, .slice A2 c.pts.length c2, .int .i64 c.t] 45)) := (Below.refl _ _).alloc (Nat.le_refl _) _
  have hb2 := hb1.alloc hb1.size (.cells #[.int .i64 ok, .int .i64 n, .int .i64 m, .int .i64 f, .int .i64 t] 26)
  have hb3 := hb2.alloc hb2.size (.cells #[.int .i64 0, .slice none 0 0, .slice none 0 0, .int .i64 0] 45)
  have HB3 := Lib.hid hb3
  have HKk := Lib.hid (HCk.out _ hb3)
  have hx1 : (((w.alloc (.cells #[.int .i64 c.e, .slice A1 c.srv.length c1, .slice A2 c.pts.length c2, .int .i64 c.t] 45)).alloc (.cells #[.int .i64 ok, .int .i64 n, .int .i64 m, .int .i64 f, .int .i64 t] 26)).alloc (.cells #[.int .i64 0, .slice none 0 0, .slice none 0 0, .int .i64 0] 45)).heap[w.heap.size]? = some _ := (three_new w _ _ _).1
  have hx2 := (three_new w (.cells #[.int .i64 c.e, .slice A1 c.srv.length c1, .slice A2 c.pts.length c2, .int .i64 c.t] 45) (.cells #[.int .i64 ok, .int .i64 n, .int .i64 m, .int .i64 f, .int .i64 t] 26) (.cells #[.int .i64 0, .slice none 0 0, .slice none 0 0, .int .i64 0] 45)).2.1
  have hx3 := (three_new w (.cells #[.int .i64 c.e, .slice A1 c.srv.length c1, .slice A2 c.pts.length c2, .int .i64 c.t] 45) (.cells #[.int .i64 ok, .int .i64 n, .int .i64 m, .int .i64 f, .int .i64 t] 26) (.cells #[.int .i64 0, .slice none 0 0, .slice none 0 0, .int .i64 0] 45)).2.2
  have HX1 := Lib.hid hx1
  have HX2 := Lib.hid hx2
  have HX3 := Lib.hid hx3
  clear hb1 hb2 hb3 hx1 hx2 hx3 HCk
  go_enter Tryz.func27, Tryz.ntmps27
  go_wp2_with fail
  go_at_call 13
  refine HKk.out.mono ?_
  rintro e w1 ⟨rfl, hb⟩
  have hB1 := HB3.out.trans (hb.mono HB3.out.size)
  have hx1 := (hb.block _ (lt_of HX1.out)).trans HX1.out
  have hx2 := (hb.block _ (lt_of HX2.out)).trans HX2.out
  have hx3 := (hb.block _ (lt_of HX3.out)).trans HX3.out
  clear HKk hb HX1 HX2 HX3 HB3
  have HX1 := Lib.hid hx1
  have HX2 := Lib.hid hx2
  have HX3 := Lib.hid hx3
  have HB1 := Lib.hid hB1
  have s0 : w1.cell? ⟨w.heap.size, 0, none⟩ = some (.int .i64 c.e) := cell_of_row w1 _ 0 _ _ _ hx1
  have s1 : w1.cell? ⟨w.heap.size, 1, none⟩ = some (.slice A1 c.srv.length c1) := cell_of_row w1 _ 1 _ _ _ hx1
  have s2 : w1.cell? ⟨w.heap.size, 2, none⟩ = some (.slice A2 c.pts.length c2) := cell_of_row w1 _ 2 _ _ _ hx1
  have o0 : w1.cell? ⟨w.heap.size + 1, 0, none⟩ = some (.int .i64 ok) := cell_of_row w1 _ 0 _ _ _ hx2
  have t0 : w1.cell? ⟨w.heap.size + 1 + 1, 0, none⟩ = some (.int .i64 0) := cell_of_row w1 _ 0 _ _ _ hx3
  have t1 : w1.cell? ⟨w.heap.size + 1 + 1, 1, none⟩ = some (.slice none 0 0) := cell_of_row w1 _ 1 _ _ _ hx3
  have t2 : w1.cell? ⟨w.heap.size + 1 + 1, 2, none⟩ = some (.slice none 0 0) := cell_of_row w1 _ 2 _ _ _ hx3
  have t3 : w1.cell? ⟨w.heap.size + 1 + 1, 3, none⟩ = some (.int .i64 0) := cell_of_row w1 _ 3 _ _ _ hx3
  have tf : ∀ j, w1.frozen? ⟨w.heap.size + 1 + 1, j, none⟩ = false := fun j => by unfold World.frozen?; simp only [hx3]; simp
  have tf0 := tf 0
  have tf1 := tf 1
  have tf2 := tf 2
  have tf3 := tf 3
  clear hx1 hx2 hx3 hB1 tf
  by_cases hok : c.ok
  case neg =>
    have e1 : apl c ⟨ok, n, m, f, t⟩ = (cfz, 1) := by unfold apl; rw [if_neg hok, chk_no hok]
    have he := chk_no hok
    rw [he]
    have E1 := Lib.hid e1
    clear e1 he hok
    go_wp2_with fail
    obtain ⟨r1, r2⟩ := store4 HX3.out (.int .i64 0) (.slice none 0 0) (.slice none 0 0) (.int .i64 0)
    refine bodyPost_ret (results_cell_tmp rfl _ _ (w.heap.size + 1 + 1) 45 #[.int .i64 0, .slice none 0 0, .slice none 0 0, .int .i64 0] (0, 0) _ rfl r1 Tryz.underlying45 rfl (by kernel_rfl)) rfl ?_
    rw [E1.out]
    exact ⟨vz, rfl, vz_ic _, HB1.out.grown r2 HB1.out.size (fun k hk => by cases hk; omega), vz_off _ _⟩
  case pos =>
  rw [chk_ok hok]
  by_cases hmx : c.e = 1099511627776
  case pos =>
    have e1 : apl c ⟨ok, n, m, f, t⟩ = (cfz, 6) := by unfold apl; rw [if_pos hok, if_pos hmx]
    have d1 : (c.e == 1099511627776) = true := by simpa using hmx
    have E1 := Lib.hid e1
    clear e1 hok hmx
    go_wp2_with fail
    obtain ⟨r1, r2⟩ := store4 HX3.out (.int .i64 0) (.slice none 0 0) (.slice none 0 0) (.int .i64 0)
    refine bodyPost_ret (results_cell_tmp rfl _ _ (w.heap.size + 1 + 1) 45 #[.int .i64 0, .slice none 0 0, .slice none 0 0, .int .i64 0] (0, 0) _ rfl r1 Tryz.underlying45 rfl (by kernel_rfl)) rfl ?_
    rw [E1.out]
    exact ⟨vz, rfl, vz_ic _, HB1.out.grown r2 HB1.out.size (fun k hk => by cases hk; omega), vz_off _ _⟩
  case neg =>
  have d1 : (c.e == 1099511627776) = false := by simpa using hmx
  have HKd := Lib.hid (kinds_any w1)
  go_wp2_with fail
  go_at_call 42
  refine HKd.out.mono ?_
  rintro e w2 ⟨rfl, hb2⟩
  have hbt := hb2.alloc hb2.size (.cells kcs 110)
  have htb := heap_alloc_new w2 (.cells kcs 110)
  have hT : w1.heap.size ≤ w2.heap.size := hb2.size
  have HX1' := (hbt.block _ (lt_of HX1.out)).trans HX1.out
  have HX2' := (hbt.block _ (lt_of HX2.out)).trans HX2.out
  have HX3' := (hbt.block _ (lt_of HX3.out)).trans HX3.out
  have HB1' := HB1.out.trans (hbt.mono HB1.out.size)
  have hl3 : w.heap.size + 1 + 1 < w2.heap.size := Nat.lt_of_lt_of_le (lt_of HX3.out) hT
  have HLt := Lib.hid hl3
  obtain ⟨T, hTT⟩ : ∃ T, w2.heap.size = T := ⟨_, rfl⟩
  have o0' : (w2.alloc (.cells kcs 110)).cell? ⟨w.heap.size + 1, 0, none⟩ = some (.int .i64 ok) := cell_of_row _ _ 0 _ _ _ HX2'
  clear s0 s1 s2 o0 t0 t1 t2 t3 tf0 tf1 tf2 tf3 HX1 HX2 HX3 HB1 HKd hb2 hbt
  by_cases hk : 1 ≤ ok ∧ ok ≤ 4
  case neg =>
    have e1 : apl c ⟨ok, n, m, f, t⟩ = (cfz, 1) := by
      have hch : change c ⟨ok, n, m, f, t⟩ = (1, c) := by
        unfold change
        rw [if_neg (by show ¬ ok = 1; omega), if_neg (by show ¬ ok = 2; omega), if_neg (by show ¬ ok = 3; omega), if_neg (by show ¬ ok = 4; omega)]
      unfold apl
      rw [if_pos hok, if_neg hmx, hch, if_neg (show ¬ (1 : Int) = 0 by decide)]
    have E1 := Lib.hid e1
    have t0 := cell_of_row _ _ 0 _ _ _ HX3'
    have t1 := cell_of_row _ _ 1 _ _ _ HX3'
    have t2 := cell_of_row _ _ 2 _ _ _ HX3'
    have t3 := cell_of_row _ _ 3 _ _ _ HX3'
    have tf : ∀ j, (w2.alloc (.cells kcs 110)).frozen? ⟨w.heap.size + 1 + 1, j, none⟩ = false := fun j => by unfold World.frozen?; simp only [HX3']; simp
    have tf0 := tf 0
    have tf1 := tf 1
    have tf2 := tf 2
    have tf3 := tf 3
    have HX3 := Lib.hid HX3'
    have HB1 := Lib.hid HB1'
    clear e1 hmx HX1' HX2' HX3' HB1' htb tf
    by_cases hk1 : ok < 1
    · have d2 : decide (ok < 1) = true := decide_eq_true hk1
      go_wp2_with fail
      obtain ⟨r1, r2⟩ := store4 HX3.out (.int .i64 0) (.slice none 0 0) (.slice none 0 0) (.int .i64 0)
      refine bodyPost_ret (results_cell_tmp rfl _ _ (w.heap.size + 1 + 1) 45 #[.int .i64 0, .slice none 0 0, .slice none 0 0, .int .i64 0] (0, 0) _ rfl r1 Tryz.underlying45 rfl (by kernel_rfl)) rfl ?_
      rw [E1.out]
      exact ⟨vz, rfl, vz_ic _, HB1.out.grown r2 HB1.out.size (fun k hk => by cases hk; omega), vz_off _ _⟩
    · have d2 : decide (ok < 1) = false := decide_eq_false hk1
      have d3 : decide (4 < ok) = true := decide_eq_true (by omega)
      go_wp2_with fail
      obtain ⟨r1, r2⟩ := store4 HX3.out (.int .i64 0) (.slice none 0 0) (.slice none 0 0) (.int .i64 0)
      refine bodyPost_ret (results_cell_tmp rfl _ _ (w.heap.size + 1 + 1) 45 #[.int .i64 0, .slice none 0 0, .slice none 0 0, .int .i64 0] (0, 0) _ rfl r1 Tryz.underlying45 rfl (by kernel_rfl)) rfl ?_
      rw [E1.out]
      exact ⟨vz, rfl, vz_ic _, HB1.out.grown r2 HB1.out.size (fun k hk => by cases hk; omega), vz_off _ _⟩
  case pos =>
    have d2 : decide (ok < 1) = false := decide_eq_false (by omega)
    have d3 : decide (4 < ok) = false := decide_eq_false (by omega)
    have ok' := hok
    have hne1 : c.srv ≠ [] := fun e => by have := ok'.2.1; rw [e] at this; simp at this
    have hne2 : c.pts ≠ [] := fun e => by have := ok'.2.2.2; rw [e] at this; simp [ptsOk] at this
    have HCIv := Lib.hid (fun (W : World) (hb : Below w.heap.size w W) => cloneI_any (HC.out W hb).1 hne1 (by omega))
    have HCPv := Lib.hid (fun (W : World) (hb : Below w.heap.size w W) => cloneP_any (HC.out W hb).2 hne2 (by omega))
    have HX1 := Lib.hid HX1'
    have HX2 := Lib.hid HX2'
    have HX3 := Lib.hid HX3'
    have HB1 := Lib.hid HB1'
    have HTb := Lib.hid htb
    have hwn : w.heap.size < w2.heap.size := by omega
    have HFx := Lib.hid (fun (W : World) (hb : Below (w2.alloc (.cells kcs 110)).heap.size (w2.alloc (.cells kcs 110)) W) => show W.cell? ⟨w.heap.size, 1, none⟩ = some (.slice A1 c.srv.length c1) ∧ W.cell? ⟨w.heap.size, 2, none⟩ = some (.slice A2 c.pts.length c2) ∧ W.frozen? ⟨w.heap.size, 1, none⟩ = false ∧ W.frozen? ⟨w.heap.size, 2, none⟩ = false from by
      have hr := (hb.block _ (lt_of HX1')).trans HX1'
      exact ⟨cell_of_row _ _ 1 _ _ _ hr, cell_of_row _ _ 2 _ _ _ hr, by unfold World.frozen?; simp only [hr]; simp, by unfold World.frozen?; simp only [hr]; simp⟩)
    clear HX1' HX2' HX3' HB1' htb hne1 hne2 HC
    go_wp2_with fail
    generalize hwt : w2.alloc (.cells kcs 110) = wt at HX1 HX2 HX3 HB1 HTb HFx o0' ⊢
    have HWt := Lib.hid hwt
    clear hwt
    obtain ⟨z1, z2, z3, z4⟩ := HFx.out _ (Below.refl _ _)
    go_cut [] from 29 to 36 (fun wx => ∃ sv' pv', CBv wx wt.heap.size w.heap.size c sv' pv' ∧ Kp wt.heap.size w.heap.size wt wx)
    case first =>
      go_region_with (first
        | (go_at_call 43; refine (HCIv.out _ ?_).mono ?_; (first | exact HB1.out.drew | exact HB1.out.trans (HB4.out.mono HB1.out.size)); rintro e w3 ⟨sv', rfl, o3, b3⟩; have HB3 : Hid (Below wt.heap.size wt w3) := Lib.hid (by first | exact (Below.drew (Below.refl _ _)).trans b3 | exact HB4.out.trans (b3.mono HB4.out.size)); (obtain ⟨y1, y2, y3, y4⟩ := HFx.out _ HB3.out); (obtain ⟨A3, n3, c3, hA3⟩ : ∃ A n c', sv' = .slice A n c' := by (obtain ⟨A', c', e, -⟩ := o3.inI); exact ⟨_, _, _, e⟩); subst hA3; have O3 := Lib.hid o3; have B3 := Lib.hid b3; clear o3 b3)
        | (go_at_call 44; refine (HCPv.out _ ?_).mono ?_; (first | exact HB1.out.drew | exact HB1.out.trans (HB3.out.mono HB1.out.size)); rintro e w4 ⟨pv', rfl, o4, b4⟩; have HB4 : Hid (Below wt.heap.size wt w4) := Lib.hid (by first | exact (Below.drew (Below.refl _ _)).trans b4 | exact HB3.out.trans (b4.mono HB3.out.size)); (obtain ⟨x1, x2, x3, x4⟩ := HFx.out _ HB4.out); (obtain ⟨A4, n4, c4, hA4⟩ : ∃ A n c', pv' = .slice A n c' := by (obtain ⟨A', c', e, -⟩ := o4.inP); exact ⟨_, _, _, e⟩); subst hA4; have O4 := Lib.hid o4; have B4 := Lib.hid b4; clear o4 b4))
      all_goals
        go_wp2_with fail
        go_meet
        exact ⟨_, _, CBv.made ((HB4.out.block _ (lt_of HX1.out)).trans HX1.out) HB4.out.size (owns_mono (O3.out.below B4.out) (Nat.le_refl _)) (owns_mono O4.out HB3.out.size), Kp.setB (Kp.setB (Kp.of HB4.out) 1 _) 2 _⟩
    case rest =>
      obtain ⟨sv5, pv5, hc5, hk5⟩ := hcut
      have hwts : wt.heap.size = w2.heap.size + 1 := by rw [← HWt.out, World.size_alloc]
      have hn2 : w.heap.size + 1 + 1 < wt.heap.size := by omega
      have htb2 := HTb.out
      rw [hTT] at htb2
      have htc : wc.heap[T]? = some (.cells kcs 110 (0, 0)) := (hk5.block T (by omega) (by omega)).trans htb2
      clear htb2
      have hxo := (hk5.block (w.heap.size + 1) (by omega) (by omega)).trans HX2.out
      have hxr := (hk5.block _ hn2 (by omega)).trans HX3.out
      have q0 : wc.cell? ⟨w.heap.size + 1, 0, none⟩ = some (.int .i64 ok) := cell_of_row _ _ 0 _ _ _ hxo
      have q1 : wc.cell? ⟨w.heap.size + 1, 1, none⟩ = some (.int .i64 n) := cell_of_row _ _ 1 _ _ _ hxo
      have q2 : wc.cell? ⟨w.heap.size + 1, 2, none⟩ = some (.int .i64 m) := cell_of_row _ _ 2 _ _ _ hxo
      have q3 : wc.cell? ⟨w.heap.size + 1, 3, none⟩ = some (.int .i64 f) := cell_of_row _ _ 3 _ _ _ hxo
      have q4 : wc.cell? ⟨w.heap.size + 1, 4, none⟩ = some (.int .i64 t) := cell_of_row _ _ 4 _ _ _ hxo
      have HR5 := Lib.hid hxr
      have HB5 := Lib.hid (show Below w.heap.size w wc from ⟨hk5.os.trans HB1.out.os, hk5.tape.trans HB1.out.tape, hk5.output.trans HB1.out.output, Nat.le_trans HB1.out.size hk5.size, fun q hq => (hk5.block q (by omega) (by omega)).trans (HB1.out.block q hq)⟩)
      have HC5 := Lib.hid (show CBv wc.drew wt.heap.size w.heap.size c sv5 pv5 from hc5.below (Below.drew (Below.refl _ _)))
      clear hk5 hxo hxr hc5 z1 z2 z3 z4 o0' HFx HX1 HX2 HX3 HB1 HCIv HCPv d2 d3
      rcases (show ok = 1 ∨ ok = 2 ∨ ok = 3 ∨ ok = 4 by omega) with hkk | hkk | hkk | hkk
      · subst hkk
        have hw0 : IntKind.i64.wrap 0 = 0 := by rfl
        have cx : wc.cell? ⟨T, 0, none⟩ = some (.func (.func 54) #[] #[]) := cell_of_row _ _ 0 _ _ _ htc
        have HCh := Lib.hid (fun (W : World) (hb : CB W wt.heap.size w.heap.size c) (hB : wt.heap.size ≤ W.heap.size) => show Calls Tryz.prog 54 #[.pointer (some ⟨w.heap.size, 0, none⟩), .agg #[.int .i64 1, .int .i64 n, .int .i64 m, .int .i64 f, .int .i64 t]] W _ from change_any hb hB hok hp ⟨1, n, m, f, t⟩ _ (.inl ⟨rfl, rfl⟩))
        have HAp := Lib.hid (apl_no (c := c) (o := ⟨1, n, m, f, t⟩) hok hmx)
        have HAy := Lib.hid (apl_yes (c := c) (o := ⟨1, n, m, f, t⟩) hok hmx)
        generalize change c ⟨1, n, m, f, t⟩ = ch at HCh HAp HAy
        obtain ⟨er, c2'⟩ := ch
        clear htc
        go_wp2_with fail
        go_still_tail 7, (by kernel_rfl)
        change wpList _ _ _ _ _ wc.drew
        go_wp2_with fail
        go_at_call 54
        refine (HCh.out _ ⟨_, _, HC5.out⟩ HC5.out.lo).mono ?_
        rintro e w6 ⟨rfl, hch, hk6⟩
        have x6 := (hk6.block _ hn2 (by omega)).trans HR5.out
        have HR6 := Lib.hid x6
        have t0 := cell_of_row _ _ 0 _ _ _ x6
        have t1 := cell_of_row _ _ 1 _ _ _ x6
        have t2 := cell_of_row _ _ 2 _ _ _ x6
        have t3 := cell_of_row _ _ 3 _ _ _ x6
        have tf : ∀ j, w6.frozen? ⟨w.heap.size + 1 + 1, j, none⟩ = false := fun j => by unfold World.frozen?; simp only [x6]; simp
        have tf0 := tf 0
        have tf1 := tf 1
        have tf2 := tf 2
        have tf3 := tf 3
        have HB6 := Lib.hid (show Below w.heap.size w w6 from ⟨hk6.os.trans HB5.out.os, hk6.tape.trans HB5.out.tape, hk6.output.trans HB5.out.output, Nat.le_trans HB5.out.size hk6.size, fun q hq => (hk6.block q (by omega) (by omega)).trans (HB5.out.block q hq)⟩)
        have HCH := Lib.hid hch
        clear hch hk6 x6 tf HCh cx q0 q1 q2 q3 q4
        by_cases her : er = 0
        case neg =>
          have e1 : (er != 0) = true := by simpa using her
          have HEr := Lib.hid her
          clear her
          go_wp2_with fail
          obtain ⟨r1, r2⟩ := store4 HR6.out (.int .i64 0) (.slice none 0 0) (.slice none 0 0) (.int .i64 0)
          refine bodyPost_ret (results_cell_tmp rfl _ _ (w.heap.size + 1 + 1) 45 #[.int .i64 0, .slice none 0 0, .slice none 0 0, .int .i64 0] (0, 0) _ rfl r1 Tryz.underlying45 rfl (by kernel_rfl)) rfl ?_
          rw [HAp.out HEr.out]
          exact ⟨vz, rfl, vz_ic _, HB6.out.grown r2 HB6.out.size (fun k hk => by cases hk; omega), vz_off _ _⟩
        case pos =>
          subst her
          obtain ⟨sv6, pv6, hc6⟩ := HCH.out rfl
          obtain ⟨hap, hce⟩ := HAy.out rfl
          have hce' : c2'.e = c.e := hce
          obtain ⟨A6, n6, d6, hA6⟩ : ∃ A n c', sv6 = .slice A n c' := by (obtain ⟨A', c', e, -⟩ := hc6.srv.inI); exact ⟨_, _, _, e⟩
          obtain ⟨A7, n7, d7, hA7⟩ : ∃ A n c', pv6 = .slice A n c' := by (obtain ⟨A', c', e, -⟩ := hc6.pts.inP); exact ⟨_, _, _, e⟩
          subst hA6
          subst hA7
          obtain ⟨y0, y1, y2, y3⟩ := hc6.cells
          have yf := hc6.free 0
          rw [hce'] at y0
          have hwe : IntKind.i64.wrap (c.e + 1) = c.e + 1 := IntWalk.i64_in _ (by have := hok.1.1; have := hok.1.2.1; omega)
          have hc7 := hc6.setE 0 (c.e + 1) { c2' with e := c.e + 1 } rfl rfl rfl
          have hr7 : (w6.setCell ⟨w.heap.size, 0, none⟩ (.int .i64 (c.e + 1))).heap[w.heap.size + 1 + 1]? = _ := (heap_set_eq (by omega) _ _).trans HR6.out
          obtain ⟨r1, r2⟩ := store4 hr7 (.int .i64 (c.e + 1)) (.slice A6 n6 d6) (.slice A7 n7 d7) (.int .i64 c2'.t)
          have hc8 := hc7.other r2 hr7 (by omega)
          have hb7 : Below w.heap.size w (w6.setCell ⟨w.heap.size, 0, none⟩ (.int .i64 (c.e + 1))) := HB6.out.setCell (p := ⟨w.heap.size, 0, none⟩) (Nat.le_refl _) _
          have hb8 := hb7.grown r2 hb7.size (fun k hk => by cases hk; omega)
          have HR1 := Lib.hid r1
          have HC8 := Lib.hid hc8
          have HB8 := Lib.hid hb8
          clear hc6 hc7 hr7 r1 r2 hc8 hb7 hb8
          go_wp2_with fail
          refine bodyPost_ret (results_cell_tmp rfl _ _ (w.heap.size + 1 + 1) 45 #[.int .i64 (c.e + 1), .slice A6 n6 d6, .slice A7 n7 d7, .int .i64 c2'.t] (0, 0) _ rfl HR1.out Tryz.underlying45 rfl (by kernel_rfl)) rfl ?_
          rw [hap]
          exact ⟨_, rfl, HC8.out.ic, HB8.out, HC8.out.off (by omega) _ _ _⟩
      · subst hkk
        have hw1 : IntKind.i64.wrap 1 = 1 := by rfl
        have cx : wc.cell? ⟨T, 1, none⟩ = some (.func (.func 55) #[] #[]) := cell_of_row _ _ 1 _ _ _ htc
        have HCh := Lib.hid (fun (W : World) (hb : CB W wt.heap.size w.heap.size c) (hB : wt.heap.size ≤ W.heap.size) => show Calls Tryz.prog 55 #[.pointer (some ⟨w.heap.size, 0, none⟩), .agg #[.int .i64 2, .int .i64 n, .int .i64 m, .int .i64 f, .int .i64 t]] W _ from change_any hb hB hok hp ⟨2, n, m, f, t⟩ _ (.inr (.inl ⟨rfl, rfl⟩)))
        have HAp := Lib.hid (apl_no (c := c) (o := ⟨2, n, m, f, t⟩) hok hmx)
        have HAy := Lib.hid (apl_yes (c := c) (o := ⟨2, n, m, f, t⟩) hok hmx)
        generalize change c ⟨2, n, m, f, t⟩ = ch at HCh HAp HAy
        obtain ⟨er, c2'⟩ := ch
        clear htc
        go_wp2_with fail
        go_still_tail 7, (by kernel_rfl)
        change wpList _ _ _ _ _ wc.drew
        go_wp2_with fail
        go_at_call 55
        refine (HCh.out _ ⟨_, _, HC5.out⟩ HC5.out.lo).mono ?_
        rintro e w6 ⟨rfl, hch, hk6⟩
        have x6 := (hk6.block _ hn2 (by omega)).trans HR5.out
        have HR6 := Lib.hid x6
        have t0 := cell_of_row _ _ 0 _ _ _ x6
        have t1 := cell_of_row _ _ 1 _ _ _ x6
        have t2 := cell_of_row _ _ 2 _ _ _ x6
        have t3 := cell_of_row _ _ 3 _ _ _ x6
        have tf : ∀ j, w6.frozen? ⟨w.heap.size + 1 + 1, j, none⟩ = false := fun j => by unfold World.frozen?; simp only [x6]; simp
        have tf0 := tf 0
        have tf1 := tf 1
        have tf2 := tf 2
        have tf3 := tf 3
        have HB6 := Lib.hid (show Below w.heap.size w w6 from ⟨hk6.os.trans HB5.out.os, hk6.tape.trans HB5.out.tape, hk6.output.trans HB5.out.output, Nat.le_trans HB5.out.size hk6.size, fun q hq => (hk6.block q (by omega) (by omega)).trans (HB5.out.block q hq)⟩)
        have HCH := Lib.hid hch
        clear hch hk6 x6 tf HCh cx q0 q1 q2 q3 q4
        by_cases her : er = 0
        case neg =>
          have e1 : (er != 0) = true := by simpa using her
          have HEr := Lib.hid her
          clear her
          go_wp2_with fail
          obtain ⟨r1, r2⟩ := store4 HR6.out (.int .i64 0) (.slice none 0 0) (.slice none 0 0) (.int .i64 0)
          refine bodyPost_ret (results_cell_tmp rfl _ _ (w.heap.size + 1 + 1) 45 #[.int .i64 0, .slice none 0 0, .slice none 0 0, .int .i64 0] (0, 0) _ rfl r1 Tryz.underlying45 rfl (by kernel_rfl)) rfl ?_
          rw [HAp.out HEr.out]
          exact ⟨vz, rfl, vz_ic _, HB6.out.grown r2 HB6.out.size (fun k hk => by cases hk; omega), vz_off _ _⟩
        case pos =>
          subst her
          obtain ⟨sv6, pv6, hc6⟩ := HCH.out rfl
          obtain ⟨hap, hce⟩ := HAy.out rfl
          have hce' : c2'.e = c.e := hce
          obtain ⟨A6, n6, d6, hA6⟩ : ∃ A n c', sv6 = .slice A n c' := by (obtain ⟨A', c', e, -⟩ := hc6.srv.inI); exact ⟨_, _, _, e⟩
          obtain ⟨A7, n7, d7, hA7⟩ : ∃ A n c', pv6 = .slice A n c' := by (obtain ⟨A', c', e, -⟩ := hc6.pts.inP); exact ⟨_, _, _, e⟩
          subst hA6
          subst hA7
          obtain ⟨y0, y1, y2, y3⟩ := hc6.cells
          have yf := hc6.free 0
          rw [hce'] at y0
          have hwe : IntKind.i64.wrap (c.e + 1) = c.e + 1 := IntWalk.i64_in _ (by have := hok.1.1; have := hok.1.2.1; omega)
          have hc7 := hc6.setE 0 (c.e + 1) { c2' with e := c.e + 1 } rfl rfl rfl
          have hr7 : (w6.setCell ⟨w.heap.size, 0, none⟩ (.int .i64 (c.e + 1))).heap[w.heap.size + 1 + 1]? = _ := (heap_set_eq (by omega) _ _).trans HR6.out
          obtain ⟨r1, r2⟩ := store4 hr7 (.int .i64 (c.e + 1)) (.slice A6 n6 d6) (.slice A7 n7 d7) (.int .i64 c2'.t)
          have hc8 := hc7.other r2 hr7 (by omega)
          have hb7 : Below w.heap.size w (w6.setCell ⟨w.heap.size, 0, none⟩ (.int .i64 (c.e + 1))) := HB6.out.setCell (p := ⟨w.heap.size, 0, none⟩) (Nat.le_refl _) _
          have hb8 := hb7.grown r2 hb7.size (fun k hk => by cases hk; omega)
          have HR1 := Lib.hid r1
          have HC8 := Lib.hid hc8
          have HB8 := Lib.hid hb8
          clear hc6 hc7 hr7 r1 r2 hc8 hb7 hb8
          go_wp2_with fail
          refine bodyPost_ret (results_cell_tmp rfl _ _ (w.heap.size + 1 + 1) 45 #[.int .i64 (c.e + 1), .slice A6 n6 d6, .slice A7 n7 d7, .int .i64 c2'.t] (0, 0) _ rfl HR1.out Tryz.underlying45 rfl (by kernel_rfl)) rfl ?_
          rw [hap]
          exact ⟨_, rfl, HC8.out.ic, HB8.out, HC8.out.off (by omega) _ _ _⟩
      · subst hkk
        have hw2 : IntKind.i64.wrap 2 = 2 := by rfl
        have cx : wc.cell? ⟨T, 2, none⟩ = some (.func (.func 56) #[] #[]) := cell_of_row _ _ 2 _ _ _ htc
        have HCh := Lib.hid (fun (W : World) (hb : CB W wt.heap.size w.heap.size c) (hB : wt.heap.size ≤ W.heap.size) => show Calls Tryz.prog 56 #[.pointer (some ⟨w.heap.size, 0, none⟩), .agg #[.int .i64 3, .int .i64 n, .int .i64 m, .int .i64 f, .int .i64 t]] W _ from change_any hb hB hok hp ⟨3, n, m, f, t⟩ _ (.inr (.inr (.inl ⟨rfl, rfl⟩))))
        have HAp := Lib.hid (apl_no (c := c) (o := ⟨3, n, m, f, t⟩) hok hmx)
        have HAy := Lib.hid (apl_yes (c := c) (o := ⟨3, n, m, f, t⟩) hok hmx)
        generalize change c ⟨3, n, m, f, t⟩ = ch at HCh HAp HAy
        obtain ⟨er, c2'⟩ := ch
        clear htc
        go_wp2_with fail
        go_still_tail 7, (by kernel_rfl)
        change wpList _ _ _ _ _ wc.drew
        go_wp2_with fail
        go_at_call 56
        refine (HCh.out _ ⟨_, _, HC5.out⟩ HC5.out.lo).mono ?_
        rintro e w6 ⟨rfl, hch, hk6⟩
        have x6 := (hk6.block _ hn2 (by omega)).trans HR5.out
        have HR6 := Lib.hid x6
        have t0 := cell_of_row _ _ 0 _ _ _ x6
        have t1 := cell_of_row _ _ 1 _ _ _ x6
        have t2 := cell_of_row _ _ 2 _ _ _ x6
        have t3 := cell_of_row _ _ 3 _ _ _ x6
        have tf : ∀ j, w6.frozen? ⟨w.heap.size + 1 + 1, j, none⟩ = false := fun j => by unfold World.frozen?; simp only [x6]; simp
        have tf0 := tf 0
        have tf1 := tf 1
        have tf2 := tf 2
        have tf3 := tf 3
        have HB6 := Lib.hid (show Below w.heap.size w w6 from ⟨hk6.os.trans HB5.out.os, hk6.tape.trans HB5.out.tape, hk6.output.trans HB5.out.output, Nat.le_trans HB5.out.size hk6.size, fun q hq => (hk6.block q (by omega) (by omega)).trans (HB5.out.block q hq)⟩)
        have HCH := Lib.hid hch
        clear hch hk6 x6 tf HCh cx q0 q1 q2 q3 q4
        by_cases her : er = 0
        case neg =>
          have e1 : (er != 0) = true := by simpa using her
          have HEr := Lib.hid her
          clear her
          go_wp2_with fail
          obtain ⟨r1, r2⟩ := store4 HR6.out (.int .i64 0) (.slice none 0 0) (.slice none 0 0) (.int .i64 0)
          refine bodyPost_ret (results_cell_tmp rfl _ _ (w.heap.size + 1 + 1) 45 #[.int .i64 0, .slice none 0 0, .slice none 0 0, .int .i64 0] (0, 0) _ rfl r1 Tryz.underlying45 rfl (by kernel_rfl)) rfl ?_
          rw [HAp.out HEr.out]
          exact ⟨vz, rfl, vz_ic _, HB6.out.grown r2 HB6.out.size (fun k hk => by cases hk; omega), vz_off _ _⟩
        case pos =>
          subst her
          obtain ⟨sv6, pv6, hc6⟩ := HCH.out rfl
          obtain ⟨hap, hce⟩ := HAy.out rfl
          have hce' : c2'.e = c.e := hce
          obtain ⟨A6, n6, d6, hA6⟩ : ∃ A n c', sv6 = .slice A n c' := by (obtain ⟨A', c', e, -⟩ := hc6.srv.inI); exact ⟨_, _, _, e⟩
          obtain ⟨A7, n7, d7, hA7⟩ : ∃ A n c', pv6 = .slice A n c' := by (obtain ⟨A', c', e, -⟩ := hc6.pts.inP); exact ⟨_, _, _, e⟩
          subst hA6
          subst hA7
          obtain ⟨y0, y1, y2, y3⟩ := hc6.cells
          have yf := hc6.free 0
          rw [hce'] at y0
          have hwe : IntKind.i64.wrap (c.e + 1) = c.e + 1 := IntWalk.i64_in _ (by have := hok.1.1; have := hok.1.2.1; omega)
          have hc7 := hc6.setE 0 (c.e + 1) { c2' with e := c.e + 1 } rfl rfl rfl
          have hr7 : (w6.setCell ⟨w.heap.size, 0, none⟩ (.int .i64 (c.e + 1))).heap[w.heap.size + 1 + 1]? = _ := (heap_set_eq (by omega) _ _).trans HR6.out
          obtain ⟨r1, r2⟩ := store4 hr7 (.int .i64 (c.e + 1)) (.slice A6 n6 d6) (.slice A7 n7 d7) (.int .i64 c2'.t)
          have hc8 := hc7.other r2 hr7 (by omega)
          have hb7 : Below w.heap.size w (w6.setCell ⟨w.heap.size, 0, none⟩ (.int .i64 (c.e + 1))) := HB6.out.setCell (p := ⟨w.heap.size, 0, none⟩) (Nat.le_refl _) _
          have hb8 := hb7.grown r2 hb7.size (fun k hk => by cases hk; omega)
          have HR1 := Lib.hid r1
          have HC8 := Lib.hid hc8
          have HB8 := Lib.hid hb8
          clear hc6 hc7 hr7 r1 r2 hc8 hb7 hb8
          go_wp2_with fail
          refine bodyPost_ret (results_cell_tmp rfl _ _ (w.heap.size + 1 + 1) 45 #[.int .i64 (c.e + 1), .slice A6 n6 d6, .slice A7 n7 d7, .int .i64 c2'.t] (0, 0) _ rfl HR1.out Tryz.underlying45 rfl (by kernel_rfl)) rfl ?_
          rw [hap]
          exact ⟨_, rfl, HC8.out.ic, HB8.out, HC8.out.off (by omega) _ _ _⟩
      · subst hkk
        have hw3 : IntKind.i64.wrap 3 = 3 := by rfl
        have cx : wc.cell? ⟨T, 3, none⟩ = some (.func (.func 57) #[] #[]) := cell_of_row _ _ 3 _ _ _ htc
        have HCh := Lib.hid (fun (W : World) (hb : CB W wt.heap.size w.heap.size c) (hB : wt.heap.size ≤ W.heap.size) => show Calls Tryz.prog 57 #[.pointer (some ⟨w.heap.size, 0, none⟩), .agg #[.int .i64 4, .int .i64 n, .int .i64 m, .int .i64 f, .int .i64 t]] W _ from change_any hb hB hok hp ⟨4, n, m, f, t⟩ _ (.inr (.inr (.inr ⟨rfl, rfl⟩))))
        have HAp := Lib.hid (apl_no (c := c) (o := ⟨4, n, m, f, t⟩) hok hmx)
        have HAy := Lib.hid (apl_yes (c := c) (o := ⟨4, n, m, f, t⟩) hok hmx)
        generalize change c ⟨4, n, m, f, t⟩ = ch at HCh HAp HAy
        obtain ⟨er, c2'⟩ := ch
        clear htc
        go_wp2_with fail
        go_still_tail 7, (by kernel_rfl)
        change wpList _ _ _ _ _ wc.drew
        go_wp2_with fail
        go_at_call 57
        refine (HCh.out _ ⟨_, _, HC5.out⟩ HC5.out.lo).mono ?_
        rintro e w6 ⟨rfl, hch, hk6⟩
        have x6 := (hk6.block _ hn2 (by omega)).trans HR5.out
        have HR6 := Lib.hid x6
        have t0 := cell_of_row _ _ 0 _ _ _ x6
        have t1 := cell_of_row _ _ 1 _ _ _ x6
        have t2 := cell_of_row _ _ 2 _ _ _ x6
        have t3 := cell_of_row _ _ 3 _ _ _ x6
        have tf : ∀ j, w6.frozen? ⟨w.heap.size + 1 + 1, j, none⟩ = false := fun j => by unfold World.frozen?; simp only [x6]; simp
        have tf0 := tf 0
        have tf1 := tf 1
        have tf2 := tf 2
        have tf3 := tf 3
        have HB6 := Lib.hid (show Below w.heap.size w w6 from ⟨hk6.os.trans HB5.out.os, hk6.tape.trans HB5.out.tape, hk6.output.trans HB5.out.output, Nat.le_trans HB5.out.size hk6.size, fun q hq => (hk6.block q (by omega) (by omega)).trans (HB5.out.block q hq)⟩)
        have HCH := Lib.hid hch
        clear hch hk6 x6 tf HCh cx q0 q1 q2 q3 q4
        by_cases her : er = 0
        case neg =>
          have e1 : (er != 0) = true := by simpa using her
          have HEr := Lib.hid her
          clear her
          go_wp2_with fail
          obtain ⟨r1, r2⟩ := store4 HR6.out (.int .i64 0) (.slice none 0 0) (.slice none 0 0) (.int .i64 0)
          refine bodyPost_ret (results_cell_tmp rfl _ _ (w.heap.size + 1 + 1) 45 #[.int .i64 0, .slice none 0 0, .slice none 0 0, .int .i64 0] (0, 0) _ rfl r1 Tryz.underlying45 rfl (by kernel_rfl)) rfl ?_
          rw [HAp.out HEr.out]
          exact ⟨vz, rfl, vz_ic _, HB6.out.grown r2 HB6.out.size (fun k hk => by cases hk; omega), vz_off _ _⟩
        case pos =>
          subst her
          obtain ⟨sv6, pv6, hc6⟩ := HCH.out rfl
          obtain ⟨hap, hce⟩ := HAy.out rfl
          have hce' : c2'.e = c.e := hce
          obtain ⟨A6, n6, d6, hA6⟩ : ∃ A n c', sv6 = .slice A n c' := by (obtain ⟨A', c', e, -⟩ := hc6.srv.inI); exact ⟨_, _, _, e⟩
          obtain ⟨A7, n7, d7, hA7⟩ : ∃ A n c', pv6 = .slice A n c' := by (obtain ⟨A', c', e, -⟩ := hc6.pts.inP); exact ⟨_, _, _, e⟩
          subst hA6
          subst hA7
          obtain ⟨y0, y1, y2, y3⟩ := hc6.cells
          have yf := hc6.free 0
          rw [hce'] at y0
          have hwe : IntKind.i64.wrap (c.e + 1) = c.e + 1 := IntWalk.i64_in _ (by have := hok.1.1; have := hok.1.2.1; omega)
          have hc7 := hc6.setE 0 (c.e + 1) { c2' with e := c.e + 1 } rfl rfl rfl
          have hr7 : (w6.setCell ⟨w.heap.size, 0, none⟩ (.int .i64 (c.e + 1))).heap[w.heap.size + 1 + 1]? = _ := (heap_set_eq (by omega) _ _).trans HR6.out
          obtain ⟨r1, r2⟩ := store4 hr7 (.int .i64 (c.e + 1)) (.slice A6 n6 d6) (.slice A7 n7 d7) (.int .i64 c2'.t)
          have hc8 := hc7.other r2 hr7 (by omega)
          have hb7 : Below w.heap.size w (w6.setCell ⟨w.heap.size, 0, none⟩ (.int .i64 (c.e + 1))) := HB6.out.setCell (p := ⟨w.heap.size, 0, none⟩) (Nat.le_refl _) _
          have hb8 := hb7.grown r2 hb7.size (fun k hk => by cases hk; omega)
          have HR1 := Lib.hid r1
          have HC8 := Lib.hid hc8
          have HB8 := Lib.hid hb8
          clear hc6 hc7 hr7 r1 r2 hc8 hb7 hb8
          go_wp2_with fail
          refine bodyPost_ret (results_cell_tmp rfl _ _ (w.heap.size + 1 + 1) 45 #[.int .i64 (c.e + 1), .slice A6 n6 d6, .slice A7 n7 d7, .int .i64 c2'.t] (0, 0) _ rfl HR1.out Tryz.underlying45 rfl (by kernel_rfl)) rfl ?_
          rw [hap]
          exact ⟨_, rfl, HC8.out.ic, HB8.out, HC8.out.off (by omega) _ _ _⟩
end Go.Proofs.YthjinpbclfankaaGreatDoor
