/-
  Apply (the document's own), by contracts.
-/
import Derived.Test.YthjinpbclfankaaGreatDoorRc1
import Derived.Test.YthjinpbclfankaaGreatDoorRc5
import Derived.Test.YthjinpbclfankaaGreatDoorRc6
namespace Go.Proofs.YthjinpbclfankaaGreatDoor
open Go.RowKit

theorem RT12.to {w w' : World} {v : Value} {c c1 c2 : Cf} {e : Ending} {er er' : Int} (h : RT12 w v c e w' c1 er) (h1 : er = er') (h2 : er = 0 → c1 = c2) : RT12 w v c e w' c2 er' := by
  subst h1
  obtain ⟨v', a, b, d, f⟩ := h
  exact ⟨v', a, (fun h0 => by rw [← h2 h0]; exact b h0), d, f⟩
theorem rchange1 {w : World} {v : Value} {c : Cf} (h : IC w v c) (hok : c.ok) (o : Od) (hk : o.k = 1) :
    Calls Tryz.prog 46 #[v, .int .i64 o.n] w fun e w' => RT12 w v c e w' (change c o).2 (change c o).1 := by
  refine (rcome_any h hok.2.2.1 o.n).mono fun e w' hh => hh.to ?_ ?_
  · unfold change; rw [if_pos hk]; split <;> (try split) <;> rfl
  · unfold change; rw [if_pos hk]; intro h0; split at h0 <;> (try split at h0) <;> (try cases h0)
    rename_i g1 g2
    rw [if_pos g1, if_neg g2]
theorem rchange2 {w : World} {v : Value} {c : Cf} (h : IC w v c) (hok : c.ok) (hpl : c.pts.length ≤ 100000) (o : Od) (hk : o.k = 2) :
    Calls Tryz.prog 47 #[v, .int .i64 o.n] w fun e w' => RT12 w v c e w' (change c o).2 (change c o).1 := by
  have e2 : change c o = if o.n ∈ c.srv then (if c.srv.length ≤ 2 then (110, c) else (0, { c with srv := goneS c.srv o.n, pts := pts (fun k => leaveC c.srv o.n (cop c.pts k)) })) else (3, c) := by
    unfold change; rw [if_neg (by omega), if_pos hk]
  refine (rleave_any h hok.2.2.1 hok.2.2.2 hpl o.n).mono fun e w' hh => hh.to ?_ ?_
  · rw [e2]; split <;> (try split) <;> rfl
  · rw [e2]; intro h0; split at h0 <;> (try split at h0) <;> (try cases h0)
    rename_i g1 g2
    rw [if_pos g1, if_neg g2]
theorem rchange3 {w : World} {v : Value} {c : Cf} (h : IC w v c) (hok : c.ok) (hpl : c.pts.length ≤ 100000) (o : Od) (hk : o.k = 3) :
    Calls Tryz.prog 48 #[v, o.val] w fun e w' => RT12 w v c e w' (change c o).2 (change c o).1 := by
  have e3 : change c o = if o.f < 0 ∨ o.t > 256 ∨ o.f ≥ o.t then (71, c) else if o.n = o.m then (1, c) else if o.n ∈ c.srv ∧ o.m ∈ c.srv then (0, { c with pts := pts (placeC c.pts o) }) else (3, c) := by
    unfold change; rw [if_neg (by omega), if_neg (by omega), if_pos hk]
  refine (rplace_any h hok.2.2.1 hok.2.2.2 hpl o).mono fun e w' hh => hh.to ?_ ?_
  · rw [e3]; split <;> (try split) <;> (try split) <;> rfl
  · rw [e3]; intro h0; split at h0 <;> (try split at h0) <;> (try split at h0) <;> (try cases h0)
    rename_i g1 g2 g3
    rw [if_neg g1, if_neg g2, if_pos g3]
theorem new_end {w1 w6 wf : World} {sv0 pv0 sv pv : Value} {c c' : Cf} (hin : InI wf sv0 c.srv ∧ InP wf pv0 c.pts)
    (hS : (sv = sv0 ∧ c'.srv = c.srv) ∨ ∃ b, w1.heap.size ≤ b ∧ OwnsI w6 b sv c'.srv) (hP : (pv = pv0 ∧ c'.pts = c.pts) ∨ ∃ b, w1.heap.size ≤ b ∧ OwnsP 84 w6 b pv c'.pts)
    (hq : ∀ q, w1.heap.size ≤ q → q < w6.heap.size → wf.heap[q]? = w6.heap[q]?) : InI wf sv c'.srv ∧ InP wf pv c'.pts := by
  constructor
  · rcases hS with ⟨rfl, e⟩ | ⟨b, hb, ho⟩
    · rw [e]; exact hin.1
    · exact OwnsI.inI (owns_kept ho fun g hg => hq g (Nat.le_trans hb (ho.lt hg).1) (ho.lt hg).2)
  · rcases hP with ⟨rfl, e⟩ | ⟨b, hb, ho⟩
    · rw [e]; exact hin.2
    · exact OwnsP.inP (owns_kept ho fun g hg => hq g (Nat.le_trans hb (OwnsP.lt ho hg).1) (OwnsP.lt ho hg).2)
theorem new_off {w w1 w6 : World} {sv0 pv0 sv pv : Value} {c c' : Cf} (hw : w.heap.size ≤ w1.heap.size)
    (hS : (sv = sv0 ∧ c'.srv = c.srv) ∨ ∃ b, w1.heap.size ≤ b ∧ OwnsI w6 b sv c'.srv) (hP : (pv = pv0 ∧ c'.pts = c.pts) ∨ ∃ b, w1.heap.size ≤ b ∧ OwnsP 84 w6 b pv c'.pts) (e t e' t' : Value) :
    OffK w (.agg #[e, sv0, pv0, t]) (.agg #[e', sv, pv, t']) := fun q hq ho e1 sv1 pv1 t1 he => by
  simp only [Value.agg.injEq, Array.mk.injEq, List.cons.injEq, and_true] at he
  obtain ⟨-, rfl, rfl, -⟩ := he
  obtain ⟨o1, o2⟩ := ho _ _ _ _ rfl
  constructor
  · rcases hS with ⟨rfl, -⟩ | ⟨b, hb, h⟩
    · exact o1
    · exact fun e => by have := (OwnsI.lt h e).1; omega
  · rcases hP with ⟨rfl, -⟩ | ⟨b, hb, h⟩
    · exact o2
    · exact fun e => by have := (OwnsP.lt h e).1; omega
theorem same_off (w : World) (sv pv e t e' t' : Value) : OffK w (.agg #[e, sv, pv, t]) (.agg #[e', sv, pv, t']) := fun q _ ho e1 sv1 pv1 t1 he => by
  simp only [Value.agg.injEq, Array.mk.injEq, List.cons.injEq, and_true] at he
  obtain ⟨-, rfl, rfl, -⟩ := he
  exact ho _ _ _ _ rfl
set_option maxRecDepth 100000 in
set_option maxHeartbeats 4000000 in
theorem rapply_any {w : World} {v : Value} {c : Cf} (h : IC w v c) (hl : c.srv.length ≤ 10000) (hp : c.pts.length ≤ 10000) (o : Od) :
    Calls Tryz.prog 29 #[v, o.val] w fun e w' => ∃ v', e = .returned (.tuple #[v', .int .i64 (apl c o).2]) ∧ IC w' v' (apl c o).1 ∧ Below w.heap.size w w' ∧ OffK w v v' := by
  have HCk := Lib.hid (fun (W : World) (hb : Below w.heap.size w W) => rcheck_any (h.below hb) (by omega) (by omega))
  have HIC := Lib.hid (fun (W : World) (hb : Below w.heap.size w W) => h.below hb)
  obtain ⟨sv, pv, rfl, HC⟩ := h.look
  obtain ⟨A1, c1, hA1, -⟩ := (HC.out _ (Below.refl _ _)).1
  obtain ⟨A2, c2, hA2, -⟩ := (HC.out _ (Below.refl _ _)).2
  subst hA1
  subst hA2
  clear h
  obtain ⟨ok, n, m, f, t⟩ := o
  show Calls _ _ #[_, .agg #[.int .i64 ok, .int .i64 n, .int .i64 m, .int .i64 f, .int .i64 t]] w _
  have hb1 : Below w.heap.size w (w.alloc (.cells #[.int .i64 c.e, .slice A1 c.srv.length c1, .slice A2 c.pts.length c2, .int .i64 c.t] 41)) := (Below.refl _ _).alloc (Nat.le_refl _) _
  have hb2 := hb1.alloc hb1.size (.cells #[.int .i64 ok, .int .i64 n, .int .i64 m, .int .i64 f, .int .i64 t] 31)
  have hb3 := hb2.alloc hb2.size (.cells #[.int .i64 0, .slice none 0 0, .slice none 0 0, .int .i64 0] 41)
  have HB3 := Lib.hid hb3
  have HKk := Lib.hid (HCk.out _ hb3)
  have hx1 : (((w.alloc (.cells #[.int .i64 c.e, .slice A1 c.srv.length c1, .slice A2 c.pts.length c2, .int .i64 c.t] 41)).alloc (.cells #[.int .i64 ok, .int .i64 n, .int .i64 m, .int .i64 f, .int .i64 t] 31)).alloc (.cells #[.int .i64 0, .slice none 0 0, .slice none 0 0, .int .i64 0] 41)).heap[w.heap.size]? = some _ := (three_new w _ _ _).1
  have hx2 := (three_new w (.cells #[.int .i64 c.e, .slice A1 c.srv.length c1, .slice A2 c.pts.length c2, .int .i64 c.t] 41) (.cells #[.int .i64 ok, .int .i64 n, .int .i64 m, .int .i64 f, .int .i64 t] 31) (.cells #[.int .i64 0, .slice none 0 0, .slice none 0 0, .int .i64 0] 41)).2.1
  have hx3 := (three_new w (.cells #[.int .i64 c.e, .slice A1 c.srv.length c1, .slice A2 c.pts.length c2, .int .i64 c.t] 41) (.cells #[.int .i64 ok, .int .i64 n, .int .i64 m, .int .i64 f, .int .i64 t] 31) (.cells #[.int .i64 0, .slice none 0 0, .slice none 0 0, .int .i64 0] 41)).2.2
  have HX1 := Lib.hid hx1
  have HX2 := Lib.hid hx2
  have HX3 := Lib.hid hx3
  clear hb1 hb2 hb3 hx1 hx2 hx3 HCk
  go_enter Tryz.func29, Tryz.ntmps29
  go_wp2_with fail
  go_at_call 45
  refine HKk.out.mono ?_
  rintro e w1 ⟨rfl, hb⟩
  have hB1 := HB3.out.trans (hb.mono HB3.out.size)
  have hx1 := (hb.block _ (lt_of HX1.out)).trans HX1.out
  have hx2 := (hb.block _ (lt_of HX2.out)).trans HX2.out
  have hx3 := (hb.block _ (lt_of HX3.out)).trans HX3.out
  clear HKk hb HX1 HX2 HX3 HB3
  have HX1 := Lib.hid hx1
  have HX2 := Lib.hid hx2
  have HX3 := Lib.hid hx3
  have HB1 := Lib.hid hB1
  have hsz : w.heap.size + 1 + 1 < w1.heap.size := lt_of hx3
  have HSZ := Lib.hid hsz
  have s0 : w1.cell? ⟨w.heap.size, 0, none⟩ = some (.int .i64 c.e) := cell_of_row w1 _ 0 _ _ _ hx1
  have s1 : w1.cell? ⟨w.heap.size, 1, none⟩ = some (.slice A1 c.srv.length c1) := cell_of_row w1 _ 1 _ _ _ hx1
  have s2 : w1.cell? ⟨w.heap.size, 2, none⟩ = some (.slice A2 c.pts.length c2) := cell_of_row w1 _ 2 _ _ _ hx1
  have s3 : w1.cell? ⟨w.heap.size, 3, none⟩ = some (.int .i64 c.t) := cell_of_row w1 _ 3 _ _ _ hx1
  have o0 : w1.cell? ⟨w.heap.size + 1, 0, none⟩ = some (.int .i64 ok) := cell_of_row w1 _ 0 _ _ _ hx2
  have o1 : w1.cell? ⟨w.heap.size + 1, 1, none⟩ = some (.int .i64 n) := cell_of_row w1 _ 1 _ _ _ hx2
  have o2 : w1.cell? ⟨w.heap.size + 1, 2, none⟩ = some (.int .i64 m) := cell_of_row w1 _ 2 _ _ _ hx2
  have o3 : w1.cell? ⟨w.heap.size + 1, 3, none⟩ = some (.int .i64 f) := cell_of_row w1 _ 3 _ _ _ hx2
  have o4 : w1.cell? ⟨w.heap.size + 1, 4, none⟩ = some (.int .i64 t) := cell_of_row w1 _ 4 _ _ _ hx2
  have t0 : w1.cell? ⟨w.heap.size + 1 + 1, 0, none⟩ = some (.int .i64 0) := cell_of_row w1 _ 0 _ _ _ hx3
  have t1 : w1.cell? ⟨w.heap.size + 1 + 1, 1, none⟩ = some (.slice none 0 0) := cell_of_row w1 _ 1 _ _ _ hx3
  have t2 : w1.cell? ⟨w.heap.size + 1 + 1, 2, none⟩ = some (.slice none 0 0) := cell_of_row w1 _ 2 _ _ _ hx3
  have t3 : w1.cell? ⟨w.heap.size + 1 + 1, 3, none⟩ = some (.int .i64 0) := cell_of_row w1 _ 3 _ _ _ hx3
  have tf : ∀ j, w1.frozen? ⟨w.heap.size + 1 + 1, j, none⟩ = false := fun j => by unfold World.frozen?; simp only [hx3]; simp
  have tf0 := tf 0
  have tf1 := tf 1
  have tf2 := tf 2
  have tf3 := tf 3
  have sf : ∀ j, w1.frozen? ⟨w.heap.size, j, none⟩ = false := fun j => by unfold World.frozen?; simp only [hx1]; simp
  have sf0 := sf 0
  have sf3 := sf 3
  clear hx1 hx2 hx3 hB1 tf sf hsz
  by_cases hok : c.ok
  case neg =>
    have e1 : apl c ⟨ok, n, m, f, t⟩ = (cfz, 1) := by unfold apl; rw [if_neg hok, chk_no hok]
    have he := chk_no hok
    rw [he]
    have E1 := Lib.hid e1
    clear e1 he hok
    go_wp2_with fail
    obtain ⟨r1, r2⟩ := store4 HX3.out (.int .i64 0) (.slice none 0 0) (.slice none 0 0) (.int .i64 0)
    refine bodyPost_ret (results_cell_tmp rfl _ _ (w.heap.size + 1 + 1) 41 #[.int .i64 0, .slice none 0 0, .slice none 0 0, .int .i64 0] (0, 0) _ rfl r1 Tryz.underlying41 rfl (by kernel_rfl)) rfl ?_
    rw [E1.out]
    exact ⟨vz, rfl, vz_ic _, HB1.out.grown r2 HB1.out.size (fun k hk => by cases hk; omega), vz_off _ _⟩
  case pos =>
  rw [chk_ok hok]
  by_cases hmx : c.e = 1099511627776
  case pos =>
    have e1 : apl c ⟨ok, n, m, f, t⟩ = (cfz, 6) := by unfold apl; rw [if_pos hok, if_pos hmx]
    have d1 : (c.e == 1099511627776) = true := by simpa using hmx
    have E1 := Lib.hid e1
    clear e1 hok hmx
    go_wp2_with fail
    obtain ⟨r1, r2⟩ := store4 HX3.out (.int .i64 0) (.slice none 0 0) (.slice none 0 0) (.int .i64 0)
    refine bodyPost_ret (results_cell_tmp rfl _ _ (w.heap.size + 1 + 1) 41 #[.int .i64 0, .slice none 0 0, .slice none 0 0, .int .i64 0] (0, 0) _ rfl r1 Tryz.underlying41 rfl (by kernel_rfl)) rfl ?_
    rw [E1.out]
    exact ⟨vz, rfl, vz_ic _, HB1.out.grown r2 HB1.out.size (fun k hk => by cases hk; omega), vz_off _ _⟩
  case neg =>
  have d1 : (c.e == 1099511627776) = false := by simpa using hmx
  have hwe : IntKind.i64.wrap (c.e + 1) = c.e + 1 := IntWalk.i64_in _ (by have := hok.1.1; have := hok.1.2.1; omega)
  by_cases hk : 1 ≤ ok ∧ ok ≤ 4
  case neg =>
    have e1 : apl c ⟨ok, n, m, f, t⟩ = (cfz, 1) := by
      have hch : change c ⟨ok, n, m, f, t⟩ = (1, c) := by
        unfold change
        rw [if_neg (by show ¬ ok = 1; omega), if_neg (by show ¬ ok = 2; omega), if_neg (by show ¬ ok = 3; omega), if_neg (by show ¬ ok = 4; omega)]
      unfold apl
      rw [if_pos hok, if_neg hmx, hch, if_neg (show ¬ (1 : Int) = 0 by decide)]
    have E1 := Lib.hid e1
    have k1 : (ok == 1) = false := by simp; omega
    have k2 : (ok == 2) = false := by simp; omega
    have k3 : (ok == 3) = false := by simp; omega
    have k4 : (ok == 4) = false := by simp; omega
    clear e1 hok hmx hk
    go_wp2_with fail
    obtain ⟨r1, r2⟩ := store4 HX3.out (.int .i64 0) (.slice none 0 0) (.slice none 0 0) (.int .i64 0)
    refine bodyPost_ret (results_cell_tmp rfl _ _ (w.heap.size + 1 + 1) 41 #[.int .i64 0, .slice none 0 0, .slice none 0 0, .int .i64 0] (0, 0) _ rfl r1 Tryz.underlying41 rfl (by kernel_rfl)) rfl ?_
    rw [E1.out]
    exact ⟨vz, rfl, vz_ic _, HB1.out.grown r2 HB1.out.size (fun k hk => by cases hk; omega), vz_off _ _⟩
  case pos =>
  rcases (show ok = 1 ∨ ok = 2 ∨ ok = 3 ∨ ok = 4 by omega) with hkk | hkk | hkk | hkk
  · subst hkk
    have HCh := Lib.hid (show Calls Tryz.prog 46 #[.agg #[.int .i64 c.e, .slice A1 c.srv.length c1, .slice A2 c.pts.length c2, .int .i64 c.t], .int .i64 n] w1 _ from rchange1 (HIC.out _ HB1.out) hok ⟨1, n, m, f, t⟩ rfl)
    have HAp := Lib.hid (apl_no (c := c) (o := ⟨1, n, m, f, t⟩) hok hmx)
    have HAy := Lib.hid (apl_yes (c := c) (o := ⟨1, n, m, f, t⟩) hok hmx)
    generalize change c ⟨1, n, m, f, t⟩ = ch at HCh HAp HAy
    obtain ⟨er, c2'⟩ := ch
    clear hok hmx hk
    go_wp2_with fail
    go_at_call 46
    refine HCh.out.mono ?_
    rintro e w6 ⟨v6, rfl, hnew, hzer, hb6⟩
    have x1 := (hb6.block _ (by have := HSZ.out; omega)).trans HX1.out
    have x3 := (hb6.block _ HSZ.out).trans HX3.out
    have hB1s := HB1.out.size
    have hB6 := HB1.out.trans (hb6.mono HB1.out.size)
    clear s0 s1 s2 s3 o0 o1 o2 o3 o4 t0 t1 t2 t3 tf0 tf1 tf2 tf3 sf0 sf3 HX1 HX2 HX3 HB1 HCh
    have y0 := cell_of_row _ _ 0 _ _ _ x1
    have y1 := cell_of_row _ _ 1 _ _ _ x1
    have y2 := cell_of_row _ _ 2 _ _ _ x1
    have y3 := cell_of_row _ _ 3 _ _ _ x1
    have t0 := cell_of_row _ _ 0 _ _ _ x3
    have t1 := cell_of_row _ _ 1 _ _ _ x3
    have t2 := cell_of_row _ _ 2 _ _ _ x3
    have t3 := cell_of_row _ _ 3 _ _ _ x3
    have tf : ∀ j, w6.frozen? ⟨w.heap.size + 1 + 1, j, none⟩ = false := fun j => by unfold World.frozen?; simp only [x3]; simp
    have tf0 := tf 0
    have tf1 := tf 1
    have tf2 := tf 2
    have tf3 := tf 3
    have sf : ∀ j, w6.frozen? ⟨w.heap.size, j, none⟩ = false := fun j => by unfold World.frozen?; simp only [x1]; simp
    have sf0 := sf 0
    have sf1 := sf 1
    have sf2 := sf 2
    have sf3 := sf 3
    by_cases her : er = 0
    case neg =>
      obtain rfl := hzer her
      have e1 : (er != 0) = true := by simpa using her
      obtain ⟨q1, q2⟩ := store4 x1 (.int .i64 0) (.slice none 0 0) (.slice none 0 0) (.int .i64 0)
      have x3' := (q2.block _ (Nat.lt_of_lt_of_le HSZ.out hb6.size) (fun e => by injection e with e; omega)).trans x3
      obtain ⟨r1, r2⟩ := store4 x3' (.int .i64 0) (.slice none 0 0) (.slice none 0 0) (.int .i64 0)
      have HR1 := Lib.hid r1
      have hb7 := hB6.grown q2 hB6.size (fun k hk => by cases hk; exact Nat.le_refl _)
      have HB8 := Lib.hid (hb7.grown r2 hb7.size (fun k hk => by cases hk; omega))
      have HAn := Lib.hid (HAp.out her)
      clear hnew hzer x1 x3 hB6 hb6 tf sf q1 q2 x3' r1 r2 hb7 her HAp HAy HSZ
      go_wp2_with fail
      refine bodyPost_ret (results_cell_tmp rfl _ _ (w.heap.size + 1 + 1) 41 #[.int .i64 0, .slice none 0 0, .slice none 0 0, .int .i64 0] (0, 0) _ rfl HR1.out Tryz.underlying41 rfl (by kernel_rfl)) rfl ?_
      rw [HAn.out]
      exact ⟨vz, rfl, vz_ic _, HB8.out, vz_off _ _⟩
    case pos =>
      subst her
      obtain ⟨sv0, pv0, sv6, pv6, hv, rfl, hS, hP⟩ := hnew rfl
      simp only [Value.agg.injEq, Array.mk.injEq, List.cons.injEq, and_true, true_and] at hv
      obtain ⟨rfl, rfl⟩ := hv
      obtain ⟨hap, hce⟩ := HAy.out rfl
      have hce' : c2'.e = c.e := hce
      have h60 := new_end (HC.out _ hB6) hS hP (fun q _ _ => rfl)
      obtain ⟨A6, d6, hA6, -⟩ := h60.1
      obtain ⟨A7, d7, hA7, -⟩ := h60.2
      subst hA6
      subst hA7
      rw [hce']
      obtain ⟨q1, q2⟩ := store4 x1 (.int .i64 c.e) (.slice A6 c2'.srv.length d6) (.slice A7 c2'.pts.length d7) (.int .i64 c2'.t)
      have x3' := (q2.block _ (Nat.lt_of_lt_of_le HSZ.out hb6.size) (fun e => by injection e with e; omega)).trans x3
      have hb7 := hB6.grown q2 hB6.size (fun k hk => by cases hk; exact Nat.le_refl _)
      have HQ2 := Lib.hid q2
      have HS := Lib.hid hS
      have HP := Lib.hid hP
      have HOF := Lib.hid (new_off (w := w) hB1s hS hP (.int .i64 c.e) (.int .i64 c.t) (.int .i64 (c.e + 1)) (.int .i64 c2'.t))
      have HAp2 := Lib.hid hap
      clear hnew hzer x1 x3 hB6 hb6 tf sf q2 HAp HAy hS hP h60 hap hce hce' t0 t1 t2 t3 tf0 tf1 tf2 tf3
      go_upto_if 61 with fail
      generalize (((w6.setCell ⟨w.heap.size, 0, none⟩ (.int .i64 c.e)).setCell ⟨w.heap.size, 1, none⟩ (.slice A6 c2'.srv.length d6)).setCell ⟨w.heap.size, 2, none⟩ (.slice A7 c2'.pts.length d7)).setCell ⟨w.heap.size, 3, none⟩ (.int .i64 c2'.t) = w7 at q1 HQ2 x3' hb7 ⊢
      clear y0 y1 y2 y3 sf0 sf1 sf2 sf3
      have y0 := cell_of_row _ _ 0 _ _ _ q1
      have y1 := cell_of_row _ _ 1 _ _ _ q1
      have y2 := cell_of_row _ _ 2 _ _ _ q1
      have y3 := cell_of_row _ _ 3 _ _ _ q1
      have sf0 : w7.frozen? ⟨w.heap.size, 0, none⟩ = false := by unfold World.frozen?; simp only [q1]; simp
      have t0 := cell_of_row _ _ 0 _ _ _ x3'
      have t1 := cell_of_row _ _ 1 _ _ _ x3'
      have t2 := cell_of_row _ _ 2 _ _ _ x3'
      have t3 := cell_of_row _ _ 3 _ _ _ x3'
      have tf : ∀ j, w7.frozen? ⟨w.heap.size + 1 + 1, j, none⟩ = false := fun j => by unfold World.frozen?; simp only [x3']; simp
      have tf0 := tf 0
      have tf1 := tf 1
      have tf2 := tf 2
      have tf3 := tf 3
      have hb8 := hb7.setCell (p := ⟨w.heap.size, 0, none⟩) (Nat.le_refl _) (.int .i64 (c.e + 1))
      have x3'' := (heap_set_eq (show w.heap.size + 1 + 1 ≠ w.heap.size by omega) 0 (.int .i64 (c.e + 1))).trans x3'
      obtain ⟨r1, r2⟩ := store4 x3'' (.int .i64 (c.e + 1)) (.slice A6 c2'.srv.length d6) (.slice A7 c2'.pts.length d7) (.int .i64 c2'.t)
      have hb9 := hb8.grown r2 hb8.size (fun k hk => by cases hk; omega)
      have hin := new_end (HC.out _ hb9) HS.out HP.out (fun q g1 g2 => (r2.block q (by have := HQ2.out.size; simp; omega) (fun e => by injection e with e; have := HSZ.out; omega)).trans ((heap_set_eq (by have := HSZ.out; omega) _ _).trans (HQ2.out.block q g2 (fun e => by injection e with e; have := HSZ.out; omega))))
      have HR1 := Lib.hid r1
      have HIN := Lib.hid hin
      have HB9 := Lib.hid hb9
      clear q1 HQ2 x3' x3'' r1 r2 hb7 hb8 hb9 hin HSZ HS HP tf
      go_wp2_with fail
      refine bodyPost_ret (results_cell_tmp rfl _ _ (w.heap.size + 1 + 1) 41 #[.int .i64 (c.e + 1), .slice A6 c2'.srv.length d6, .slice A7 c2'.pts.length d7, .int .i64 c2'.t] (0, 0) _ rfl HR1.out Tryz.underlying41 rfl (by kernel_rfl)) rfl ?_
      rw [HAp2.out]
      exact ⟨_, rfl, ⟨_, _, rfl, HIN.out.1, HIN.out.2⟩, HB9.out, HOF.out⟩
  · subst hkk
    have HCh := Lib.hid (show Calls Tryz.prog 47 #[.agg #[.int .i64 c.e, .slice A1 c.srv.length c1, .slice A2 c.pts.length c2, .int .i64 c.t], .int .i64 n] w1 _ from rchange2 (HIC.out _ HB1.out) hok (by omega) ⟨2, n, m, f, t⟩ rfl)
    have HAp := Lib.hid (apl_no (c := c) (o := ⟨2, n, m, f, t⟩) hok hmx)
    have HAy := Lib.hid (apl_yes (c := c) (o := ⟨2, n, m, f, t⟩) hok hmx)
    generalize change c ⟨2, n, m, f, t⟩ = ch at HCh HAp HAy
    obtain ⟨er, c2'⟩ := ch
    clear hok hmx hk
    go_wp2_with fail
    go_at_call 47
    refine HCh.out.mono ?_
    rintro e w6 ⟨v6, rfl, hnew, hzer, hb6⟩
    have x1 := (hb6.block _ (by have := HSZ.out; omega)).trans HX1.out
    have x3 := (hb6.block _ HSZ.out).trans HX3.out
    have hB1s := HB1.out.size
    have hB6 := HB1.out.trans (hb6.mono HB1.out.size)
    clear s0 s1 s2 s3 o0 o1 o2 o3 o4 t0 t1 t2 t3 tf0 tf1 tf2 tf3 sf0 sf3 HX1 HX2 HX3 HB1 HCh
    have y0 := cell_of_row _ _ 0 _ _ _ x1
    have y1 := cell_of_row _ _ 1 _ _ _ x1
    have y2 := cell_of_row _ _ 2 _ _ _ x1
    have y3 := cell_of_row _ _ 3 _ _ _ x1
    have t0 := cell_of_row _ _ 0 _ _ _ x3
    have t1 := cell_of_row _ _ 1 _ _ _ x3
    have t2 := cell_of_row _ _ 2 _ _ _ x3
    have t3 := cell_of_row _ _ 3 _ _ _ x3
    have tf : ∀ j, w6.frozen? ⟨w.heap.size + 1 + 1, j, none⟩ = false := fun j => by unfold World.frozen?; simp only [x3]; simp
    have tf0 := tf 0
    have tf1 := tf 1
    have tf2 := tf 2
    have tf3 := tf 3
    have sf : ∀ j, w6.frozen? ⟨w.heap.size, j, none⟩ = false := fun j => by unfold World.frozen?; simp only [x1]; simp
    have sf0 := sf 0
    have sf1 := sf 1
    have sf2 := sf 2
    have sf3 := sf 3
    by_cases her : er = 0
    case neg =>
      obtain rfl := hzer her
      have e1 : (er != 0) = true := by simpa using her
      obtain ⟨q1, q2⟩ := store4 x1 (.int .i64 0) (.slice none 0 0) (.slice none 0 0) (.int .i64 0)
      have x3' := (q2.block _ (Nat.lt_of_lt_of_le HSZ.out hb6.size) (fun e => by injection e with e; omega)).trans x3
      obtain ⟨r1, r2⟩ := store4 x3' (.int .i64 0) (.slice none 0 0) (.slice none 0 0) (.int .i64 0)
      have HR1 := Lib.hid r1
      have hb7 := hB6.grown q2 hB6.size (fun k hk => by cases hk; exact Nat.le_refl _)
      have HB8 := Lib.hid (hb7.grown r2 hb7.size (fun k hk => by cases hk; omega))
      have HAn := Lib.hid (HAp.out her)
      clear hnew hzer x1 x3 hB6 hb6 tf sf q1 q2 x3' r1 r2 hb7 her HAp HAy HSZ
      go_wp2_with fail
      refine bodyPost_ret (results_cell_tmp rfl _ _ (w.heap.size + 1 + 1) 41 #[.int .i64 0, .slice none 0 0, .slice none 0 0, .int .i64 0] (0, 0) _ rfl HR1.out Tryz.underlying41 rfl (by kernel_rfl)) rfl ?_
      rw [HAn.out]
      exact ⟨vz, rfl, vz_ic _, HB8.out, vz_off _ _⟩
    case pos =>
      subst her
      obtain ⟨sv0, pv0, sv6, pv6, hv, rfl, hS, hP⟩ := hnew rfl
      simp only [Value.agg.injEq, Array.mk.injEq, List.cons.injEq, and_true, true_and] at hv
      obtain ⟨rfl, rfl⟩ := hv
      obtain ⟨hap, hce⟩ := HAy.out rfl
      have hce' : c2'.e = c.e := hce
      have h60 := new_end (HC.out _ hB6) hS hP (fun q _ _ => rfl)
      obtain ⟨A6, d6, hA6, -⟩ := h60.1
      obtain ⟨A7, d7, hA7, -⟩ := h60.2
      subst hA6
      subst hA7
      rw [hce']
      obtain ⟨q1, q2⟩ := store4 x1 (.int .i64 c.e) (.slice A6 c2'.srv.length d6) (.slice A7 c2'.pts.length d7) (.int .i64 c2'.t)
      have x3' := (q2.block _ (Nat.lt_of_lt_of_le HSZ.out hb6.size) (fun e => by injection e with e; omega)).trans x3
      have hb7 := hB6.grown q2 hB6.size (fun k hk => by cases hk; exact Nat.le_refl _)
      have HQ2 := Lib.hid q2
      have HS := Lib.hid hS
      have HP := Lib.hid hP
      have HOF := Lib.hid (new_off (w := w) hB1s hS hP (.int .i64 c.e) (.int .i64 c.t) (.int .i64 (c.e + 1)) (.int .i64 c2'.t))
      have HAp2 := Lib.hid hap
      clear hnew hzer x1 x3 hB6 hb6 tf sf q2 HAp HAy hS hP h60 hap hce hce' t0 t1 t2 t3 tf0 tf1 tf2 tf3
      go_upto_if 61 with fail
      generalize (((w6.setCell ⟨w.heap.size, 0, none⟩ (.int .i64 c.e)).setCell ⟨w.heap.size, 1, none⟩ (.slice A6 c2'.srv.length d6)).setCell ⟨w.heap.size, 2, none⟩ (.slice A7 c2'.pts.length d7)).setCell ⟨w.heap.size, 3, none⟩ (.int .i64 c2'.t) = w7 at q1 HQ2 x3' hb7 ⊢
      clear y0 y1 y2 y3 sf0 sf1 sf2 sf3
      have y0 := cell_of_row _ _ 0 _ _ _ q1
      have y1 := cell_of_row _ _ 1 _ _ _ q1
      have y2 := cell_of_row _ _ 2 _ _ _ q1
      have y3 := cell_of_row _ _ 3 _ _ _ q1
      have sf0 : w7.frozen? ⟨w.heap.size, 0, none⟩ = false := by unfold World.frozen?; simp only [q1]; simp
      have t0 := cell_of_row _ _ 0 _ _ _ x3'
      have t1 := cell_of_row _ _ 1 _ _ _ x3'
      have t2 := cell_of_row _ _ 2 _ _ _ x3'
      have t3 := cell_of_row _ _ 3 _ _ _ x3'
      have tf : ∀ j, w7.frozen? ⟨w.heap.size + 1 + 1, j, none⟩ = false := fun j => by unfold World.frozen?; simp only [x3']; simp
      have tf0 := tf 0
      have tf1 := tf 1
      have tf2 := tf 2
      have tf3 := tf 3
      have hb8 := hb7.setCell (p := ⟨w.heap.size, 0, none⟩) (Nat.le_refl _) (.int .i64 (c.e + 1))
      have x3'' := (heap_set_eq (show w.heap.size + 1 + 1 ≠ w.heap.size by omega) 0 (.int .i64 (c.e + 1))).trans x3'
      obtain ⟨r1, r2⟩ := store4 x3'' (.int .i64 (c.e + 1)) (.slice A6 c2'.srv.length d6) (.slice A7 c2'.pts.length d7) (.int .i64 c2'.t)
      have hb9 := hb8.grown r2 hb8.size (fun k hk => by cases hk; omega)
      have hin := new_end (HC.out _ hb9) HS.out HP.out (fun q g1 g2 => (r2.block q (by have := HQ2.out.size; simp; omega) (fun e => by injection e with e; have := HSZ.out; omega)).trans ((heap_set_eq (by have := HSZ.out; omega) _ _).trans (HQ2.out.block q g2 (fun e => by injection e with e; have := HSZ.out; omega))))
      have HR1 := Lib.hid r1
      have HIN := Lib.hid hin
      have HB9 := Lib.hid hb9
      clear q1 HQ2 x3' x3'' r1 r2 hb7 hb8 hb9 hin HSZ HS HP tf
      go_wp2_with fail
      refine bodyPost_ret (results_cell_tmp rfl _ _ (w.heap.size + 1 + 1) 41 #[.int .i64 (c.e + 1), .slice A6 c2'.srv.length d6, .slice A7 c2'.pts.length d7, .int .i64 c2'.t] (0, 0) _ rfl HR1.out Tryz.underlying41 rfl (by kernel_rfl)) rfl ?_
      rw [HAp2.out]
      exact ⟨_, rfl, ⟨_, _, rfl, HIN.out.1, HIN.out.2⟩, HB9.out, HOF.out⟩
  · subst hkk
    have HCh := Lib.hid (show Calls Tryz.prog 48 #[.agg #[.int .i64 c.e, .slice A1 c.srv.length c1, .slice A2 c.pts.length c2, .int .i64 c.t], .agg #[.int .i64 3, .int .i64 n, .int .i64 m, .int .i64 f, .int .i64 t]] w1 _ from rchange3 (HIC.out _ HB1.out) hok (by omega) ⟨3, n, m, f, t⟩ rfl)
    have HAp := Lib.hid (apl_no (c := c) (o := ⟨3, n, m, f, t⟩) hok hmx)
    have HAy := Lib.hid (apl_yes (c := c) (o := ⟨3, n, m, f, t⟩) hok hmx)
    generalize change c ⟨3, n, m, f, t⟩ = ch at HCh HAp HAy
    obtain ⟨er, c2'⟩ := ch
    clear hok hmx hk
    go_wp2_with fail
    go_at_call 48
    refine HCh.out.mono ?_
    rintro e w6 ⟨v6, rfl, hnew, hzer, hb6⟩
    have x1 := (hb6.block _ (by have := HSZ.out; omega)).trans HX1.out
    have x3 := (hb6.block _ HSZ.out).trans HX3.out
    have hB1s := HB1.out.size
    have hB6 := HB1.out.trans (hb6.mono HB1.out.size)
    clear s0 s1 s2 s3 o0 o1 o2 o3 o4 t0 t1 t2 t3 tf0 tf1 tf2 tf3 sf0 sf3 HX1 HX2 HX3 HB1 HCh
    have y0 := cell_of_row _ _ 0 _ _ _ x1
    have y1 := cell_of_row _ _ 1 _ _ _ x1
    have y2 := cell_of_row _ _ 2 _ _ _ x1
    have y3 := cell_of_row _ _ 3 _ _ _ x1
    have t0 := cell_of_row _ _ 0 _ _ _ x3
    have t1 := cell_of_row _ _ 1 _ _ _ x3
    have t2 := cell_of_row _ _ 2 _ _ _ x3
    have t3 := cell_of_row _ _ 3 _ _ _ x3
    have tf : ∀ j, w6.frozen? ⟨w.heap.size + 1 + 1, j, none⟩ = false := fun j => by unfold World.frozen?; simp only [x3]; simp
    have tf0 := tf 0
    have tf1 := tf 1
    have tf2 := tf 2
    have tf3 := tf 3
    have sf : ∀ j, w6.frozen? ⟨w.heap.size, j, none⟩ = false := fun j => by unfold World.frozen?; simp only [x1]; simp
    have sf0 := sf 0
    have sf1 := sf 1
    have sf2 := sf 2
    have sf3 := sf 3
    by_cases her : er = 0
    case neg =>
      obtain rfl := hzer her
      have e1 : (er != 0) = true := by simpa using her
      obtain ⟨q1, q2⟩ := store4 x1 (.int .i64 0) (.slice none 0 0) (.slice none 0 0) (.int .i64 0)
      have x3' := (q2.block _ (Nat.lt_of_lt_of_le HSZ.out hb6.size) (fun e => by injection e with e; omega)).trans x3
      obtain ⟨r1, r2⟩ := store4 x3' (.int .i64 0) (.slice none 0 0) (.slice none 0 0) (.int .i64 0)
      have HR1 := Lib.hid r1
      have hb7 := hB6.grown q2 hB6.size (fun k hk => by cases hk; exact Nat.le_refl _)
      have HB8 := Lib.hid (hb7.grown r2 hb7.size (fun k hk => by cases hk; omega))
      have HAn := Lib.hid (HAp.out her)
      clear hnew hzer x1 x3 hB6 hb6 tf sf q1 q2 x3' r1 r2 hb7 her HAp HAy HSZ
      go_wp2_with fail
      refine bodyPost_ret (results_cell_tmp rfl _ _ (w.heap.size + 1 + 1) 41 #[.int .i64 0, .slice none 0 0, .slice none 0 0, .int .i64 0] (0, 0) _ rfl HR1.out Tryz.underlying41 rfl (by kernel_rfl)) rfl ?_
      rw [HAn.out]
      exact ⟨vz, rfl, vz_ic _, HB8.out, vz_off _ _⟩
    case pos =>
      subst her
      obtain ⟨sv0, pv0, sv6, pv6, hv, rfl, hS, hP⟩ := hnew rfl
      simp only [Value.agg.injEq, Array.mk.injEq, List.cons.injEq, and_true, true_and] at hv
      obtain ⟨rfl, rfl⟩ := hv
      obtain ⟨hap, hce⟩ := HAy.out rfl
      have hce' : c2'.e = c.e := hce
      have h60 := new_end (HC.out _ hB6) hS hP (fun q _ _ => rfl)
      obtain ⟨A6, d6, hA6, -⟩ := h60.1
      obtain ⟨A7, d7, hA7, -⟩ := h60.2
      subst hA6
      subst hA7
      rw [hce']
      obtain ⟨q1, q2⟩ := store4 x1 (.int .i64 c.e) (.slice A6 c2'.srv.length d6) (.slice A7 c2'.pts.length d7) (.int .i64 c2'.t)
      have x3' := (q2.block _ (Nat.lt_of_lt_of_le HSZ.out hb6.size) (fun e => by injection e with e; omega)).trans x3
      have hb7 := hB6.grown q2 hB6.size (fun k hk => by cases hk; exact Nat.le_refl _)
      have HQ2 := Lib.hid q2
      have HS := Lib.hid hS
      have HP := Lib.hid hP
      have HOF := Lib.hid (new_off (w := w) hB1s hS hP (.int .i64 c.e) (.int .i64 c.t) (.int .i64 (c.e + 1)) (.int .i64 c2'.t))
      have HAp2 := Lib.hid hap
      clear hnew hzer x1 x3 hB6 hb6 tf sf q2 HAp HAy hS hP h60 hap hce hce' t0 t1 t2 t3 tf0 tf1 tf2 tf3
      go_upto_if 61 with fail
      generalize (((w6.setCell ⟨w.heap.size, 0, none⟩ (.int .i64 c.e)).setCell ⟨w.heap.size, 1, none⟩ (.slice A6 c2'.srv.length d6)).setCell ⟨w.heap.size, 2, none⟩ (.slice A7 c2'.pts.length d7)).setCell ⟨w.heap.size, 3, none⟩ (.int .i64 c2'.t) = w7 at q1 HQ2 x3' hb7 ⊢
      clear y0 y1 y2 y3 sf0 sf1 sf2 sf3
      have y0 := cell_of_row _ _ 0 _ _ _ q1
      have y1 := cell_of_row _ _ 1 _ _ _ q1
      have y2 := cell_of_row _ _ 2 _ _ _ q1
      have y3 := cell_of_row _ _ 3 _ _ _ q1
      have sf0 : w7.frozen? ⟨w.heap.size, 0, none⟩ = false := by unfold World.frozen?; simp only [q1]; simp
      have t0 := cell_of_row _ _ 0 _ _ _ x3'
      have t1 := cell_of_row _ _ 1 _ _ _ x3'
      have t2 := cell_of_row _ _ 2 _ _ _ x3'
      have t3 := cell_of_row _ _ 3 _ _ _ x3'
      have tf : ∀ j, w7.frozen? ⟨w.heap.size + 1 + 1, j, none⟩ = false := fun j => by unfold World.frozen?; simp only [x3']; simp
      have tf0 := tf 0
      have tf1 := tf 1
      have tf2 := tf 2
      have tf3 := tf 3
      have hb8 := hb7.setCell (p := ⟨w.heap.size, 0, none⟩) (Nat.le_refl _) (.int .i64 (c.e + 1))
      have x3'' := (heap_set_eq (show w.heap.size + 1 + 1 ≠ w.heap.size by omega) 0 (.int .i64 (c.e + 1))).trans x3'
      obtain ⟨r1, r2⟩ := store4 x3'' (.int .i64 (c.e + 1)) (.slice A6 c2'.srv.length d6) (.slice A7 c2'.pts.length d7) (.int .i64 c2'.t)
      have hb9 := hb8.grown r2 hb8.size (fun k hk => by cases hk; omega)
      have hin := new_end (HC.out _ hb9) HS.out HP.out (fun q g1 g2 => (r2.block q (by have := HQ2.out.size; simp; omega) (fun e => by injection e with e; have := HSZ.out; omega)).trans ((heap_set_eq (by have := HSZ.out; omega) _ _).trans (HQ2.out.block q g2 (fun e => by injection e with e; have := HSZ.out; omega))))
      have HR1 := Lib.hid r1
      have HIN := Lib.hid hin
      have HB9 := Lib.hid hb9
      clear q1 HQ2 x3' x3'' r1 r2 hb7 hb8 hb9 hin HSZ HS HP tf
      go_wp2_with fail
      refine bodyPost_ret (results_cell_tmp rfl _ _ (w.heap.size + 1 + 1) 41 #[.int .i64 (c.e + 1), .slice A6 c2'.srv.length d6, .slice A7 c2'.pts.length d7, .int .i64 c2'.t] (0, 0) _ rfl HR1.out Tryz.underlying41 rfl (by kernel_rfl)) rfl ?_
      rw [HAp2.out]
      exact ⟨_, rfl, ⟨_, _, rfl, HIN.out.1, HIN.out.2⟩, HB9.out, HOF.out⟩
  · subst hkk
    by_cases hn : 1 ≤ n ∧ n ≤ 8
    case neg =>
      have e1 : apl c ⟨4, n, m, f, t⟩ = (cfz, 1) := by
        have hch : change c ⟨4, n, m, f, t⟩ = (1, c) := by
          unfold change
          rw [if_neg (by show ¬ (4 : Int) = 1; omega), if_neg (by show ¬ (4 : Int) = 2; omega), if_neg (by show ¬ (4 : Int) = 3; omega), if_pos rfl, if_neg hn]
        unfold apl
        rw [if_pos hok, if_neg hmx, hch, if_neg (show ¬ (1 : Int) = 0 by decide)]
      have E1 := Lib.hid e1
      clear e1 hok hmx hk
      by_cases hn1 : n < 1
      · have d2 : decide (n < 1) = true := decide_eq_true hn1
        go_wp2_with fail
        obtain ⟨r1, r2⟩ := store4 HX3.out (.int .i64 0) (.slice none 0 0) (.slice none 0 0) (.int .i64 0)
        refine bodyPost_ret (results_cell_tmp rfl _ _ (w.heap.size + 1 + 1) 41 #[.int .i64 0, .slice none 0 0, .slice none 0 0, .int .i64 0] (0, 0) _ rfl r1 Tryz.underlying41 rfl (by kernel_rfl)) rfl ?_
        rw [E1.out]
        exact ⟨vz, rfl, vz_ic _, HB1.out.grown r2 HB1.out.size (fun k hk => by cases hk; omega), vz_off _ _⟩
      · have d2 : decide (n < 1) = false := decide_eq_false hn1
        have d3 : decide (8 < n) = true := decide_eq_true (by omega)
        go_wp2_with fail
        obtain ⟨r1, r2⟩ := store4 HX3.out (.int .i64 0) (.slice none 0 0) (.slice none 0 0) (.int .i64 0)
        refine bodyPost_ret (results_cell_tmp rfl _ _ (w.heap.size + 1 + 1) 41 #[.int .i64 0, .slice none 0 0, .slice none 0 0, .int .i64 0] (0, 0) _ rfl r1 Tryz.underlying41 rfl (by kernel_rfl)) rfl ?_
        rw [E1.out]
        exact ⟨vz, rfl, vz_ic _, HB1.out.grown r2 HB1.out.size (fun k hk => by cases hk; omega), vz_off _ _⟩
    case pos =>
      have d2 : decide (n < 1) = false := decide_eq_false (by omega)
      have d3 : decide (8 < n) = false := decide_eq_false (by omega)
      have e1 : apl c ⟨4, n, m, f, t⟩ = ({ c with e := c.e + 1, t := n }, 0) := by
        have hch : change c ⟨4, n, m, f, t⟩ = (0, { c with t := n }) := by
          unfold change
          rw [if_neg (by show ¬ (4 : Int) = 1; omega), if_neg (by show ¬ (4 : Int) = 2; omega), if_neg (by show ¬ (4 : Int) = 3; omega), if_pos rfl, if_pos hn]
        unfold apl
        rw [if_pos hok, if_neg hmx, hch, if_pos rfl]
      have E1 := Lib.hid e1
      have q1 := HB1.out.setCell (p := ⟨w.heap.size, 3, none⟩) (Nat.le_refl _) (.int .i64 n)
      have q2 := q1.setCell (p := ⟨w.heap.size, 0, none⟩) (Nat.le_refl _) (.int .i64 (c.e + 1))
      have x3'' := (heap_set_eq (show w.heap.size + 1 + 1 ≠ w.heap.size by omega) 0 (.int .i64 (c.e + 1))).trans ((heap_set_eq (show w.heap.size + 1 + 1 ≠ w.heap.size by omega) 3 (.int .i64 n)).trans HX3.out)
      obtain ⟨r1, r2⟩ := store4 x3'' (.int .i64 (c.e + 1)) (.slice A1 c.srv.length c1) (.slice A2 c.pts.length c2) (.int .i64 n)
      have q3 := q2.grown r2 q2.size (fun k hk => by cases hk; omega)
      have HR1 := Lib.hid r1
      have HB9 := Lib.hid q3
      have HIN := Lib.hid (HC.out _ q3)
      clear e1 hok hmx hk hn q1 q2 x3'' r1 r2 q3
      go_wp2_with fail
      refine bodyPost_ret (results_cell_tmp rfl _ _ (w.heap.size + 1 + 1) 41 #[.int .i64 (c.e + 1), .slice A1 c.srv.length c1, .slice A2 c.pts.length c2, .int .i64 n] (0, 0) _ rfl HR1.out Tryz.underlying41 rfl (by kernel_rfl)) rfl ?_
      rw [E1.out]
      exact ⟨_, rfl, ⟨_, _, rfl, HIN.out.1, HIN.out.2⟩, HB9.out, same_off _ _ _ _ _ _ _⟩
end Go.Proofs.YthjinpbclfankaaGreatDoor
