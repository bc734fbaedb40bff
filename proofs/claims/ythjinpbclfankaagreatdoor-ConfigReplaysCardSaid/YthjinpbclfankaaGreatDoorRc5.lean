/-
  place (the document's own), by a contract.
-/
import Derived.Test.YthjinpbclfankaaGreatDoorRc3
namespace Go.Proofs.YthjinpbclfankaaGreatDoor
open Go.RowKit

theorem OwnsP.set1 {e : TypeId} {w : World} {base g n cap k j : Nat} {l : List Pt} {p p' : Pt} {x : Int} (h : OwnsP e w base (.slice (some ⟨g, 0, none⟩) n cap) l) (hk : l[k]? = some p) (hj : j < 4) (hp : p'.cells.toList = p.cells.toList.set j (.int .i64 x)) :
    OwnsP e (w.setCell ⟨g, k * 4 + j, none⟩ (.int .i64 x)) base (.slice (some ⟨g, 0, none⟩) n cap) (l.set k p') := by
  have hn : n = l.length := by
    rcases h.form with ⟨e, -⟩ | ⟨g', cap', e, -⟩
    · cases e
    · simp only [Value.slice.injEq] at e; exact e.2.1
  subst hn
  have h2 := (World.ownsRow.stored h (k * 4 + j) (.int .i64 x)).1
  rw [pflat_set hk hj hp] at h2
  unfold OwnsP
  rw [List.length_set]; exact h2
theorem OwnsP.set4 {e : TypeId} {w : World} {base g n cap k : Nat} {l : List Pt} {p : Pt} {f t a b : Int} (h : OwnsP e w base (.slice (some ⟨g, 0, none⟩) n cap) l) (hk : l[k]? = some p) :
    OwnsP e ((((w.setCell ⟨g, k * 4, none⟩ (.int .i64 f)).setCell ⟨g, k * 4 + 1, none⟩ (.int .i64 t)).setCell ⟨g, k * 4 + 2, none⟩ (.int .i64 a)).setCell ⟨g, k * 4 + 3, none⟩ (.int .i64 b)) base (.slice (some ⟨g, 0, none⟩) n cap) (l.set k ⟨f, t, a, b⟩) := by
  have hkl : k < l.length := (List.getElem?_eq_some_iff.1 hk).1
  have get : ∀ (q : Pt), (l.set k q)[k]? = some q := fun q => by rw [List.getElem?_set]; simp [hkl]
  have h1 := h.set1 (p' := ⟨f, p.t, p.a, p.b⟩) (j := 0) (x := f) hk (by omega) rfl
  have h2 := h1.set1 (p' := ⟨f, t, p.a, p.b⟩) (j := 1) (x := t) (get _) (by omega) rfl
  rw [List.set_set] at h2
  have h3 := h2.set1 (p' := ⟨f, t, a, p.b⟩) (j := 2) (x := a) (get _) (by omega) rfl
  rw [List.set_set] at h3
  have h4 := h3.set1 (p' := ⟨f, t, a, b⟩) (j := 3) (x := b) (get _) (by omega) rfl
  rw [List.set_set] at h4
  exact h4
theorem OwnsP.at_ {e : TypeId} {w : World} {base g n cap k : Nat} {l : List Pt} {p : Pt} (h : OwnsP e w base (.slice (some ⟨g, 0, none⟩) n cap) l) (hk : l[k]? = some p) : PAt w g (k * 4) p ∧ (∀ j, w.frozen? ⟨g, j, none⟩ = false) ∧ base ≤ g ∧ g < w.heap.size ∧ n = l.length := by
  rcases h.form with ⟨e, -⟩ | ⟨g', cap', e, hb, -, -, ⟨cur, hcur⟩, hat⟩
  · cases e
  · simp only [Value.slice.injEq, Option.some.injEq, Addr.mk.injEq, and_true] at e
    obtain ⟨⟨rfl, -⟩, hn, -⟩ := e
    exact ⟨hat k p hk, fun j => by unfold World.frozen?; simp only [hcur]; simp, hb, lt_of hcur, hn⟩
/-- A slice that is not empty lies in a row. -/
theorem OwnsP.row {e : TypeId} {w : World} {base : Nat} {v : Value} {l : List Pt} (h : OwnsP e w base v l) (hl : 0 < l.length) : ∃ g cap, v = .slice (some ⟨g, 0, none⟩) l.length cap := by
  rcases h.form with ⟨-, e⟩ | ⟨g, cap, e, -⟩
  · rw [e] at hl; cases hl
  · exact ⟨g, cap, e⟩
set_option maxRecDepth 100000 in
set_option maxHeartbeats 4000000 in
theorem rplace_any {w : World} {v : Value} {c : Cf} (h : IC w v c) (hs : srvOk (-1) c.srv = true) (hp : ptsOk c.srv 0 256 c.pts = true) (hpl : c.pts.length ≤ 100000) (o : Od) :
    Calls Tryz.prog 48 #[v, o.val] w fun e w' => RT12 w v c e w' { c with pts := pts (placeC c.pts o) } (if o.f < 0 ∨ o.t > 256 ∨ o.f ≥ o.t then 71 else if o.n = o.m then 1 else if o.n ∈ c.srv ∧ o.m ∈ c.srv then 0 else 3) := by
  have hl8 := srvOk_len8 hs
  have HBk := Lib.hid (fun (W : World) (hb : Below w.heap.size w W) => blocks_any (h.below hb) hp hpl)
  obtain ⟨sv, pv, rfl, HC⟩ := h.look
  obtain ⟨A1, c1, hA1, -⟩ := (HC.out _ (Below.refl _ _)).1
  obtain ⟨A2, c2, hA2, -⟩ := (HC.out _ (Below.refl _ _)).2
  subst hA1
  subst hA2
  clear h
  obtain ⟨ok, n, m, f, t⟩ := o
  show Calls _ _ #[_, .agg #[.int .i64 ok, .int .i64 n, .int .i64 m, .int .i64 f, .int .i64 t]] w fun e w' => RT12 w (.agg #[.int .i64 c.e, .slice A1 c.srv.length c1, .slice A2 c.pts.length c2, .int .i64 c.t]) c e w' { c with pts := pts (placeC c.pts ⟨ok, n, m, f, t⟩) } (if f < 0 ∨ t > 256 ∨ f ≥ t then 71 else if n = m then 1 else if n ∈ c.srv ∧ m ∈ c.srv then 0 else 3)
  have hb1 : Below w.heap.size w (w.alloc (.cells #[.int .i64 c.e, .slice A1 c.srv.length c1, .slice A2 c.pts.length c2, .int .i64 c.t] 41)) := (Below.refl _ _).alloc (Nat.le_refl _) _
  have hb2 := hb1.alloc hb1.size (.cells #[.int .i64 ok, .int .i64 n, .int .i64 m, .int .i64 f, .int .i64 t] 31)
  have hb3 := hb2.alloc hb2.size (.cells #[.int .i64 0, .slice none 0 0, .slice none 0 0, .int .i64 0] 41)
  obtain ⟨x1, x2, x3⟩ := three_new w (.cells #[.int .i64 c.e, .slice A1 c.srv.length c1, .slice A2 c.pts.length c2, .int .i64 c.t] 41) (.cells #[.int .i64 ok, .int .i64 n, .int .i64 m, .int .i64 f, .int .i64 t] 31) (.cells #[.int .i64 0, .slice none 0 0, .slice none 0 0, .int .i64 0] 41)
  have HB3 := Lib.hid hb3
  have HX1 := Lib.hid x1
  have HX2 := Lib.hid x2
  have HX3 := Lib.hid x3
  have HHn := Lib.hid (has_any (HC.out _ hb3).1 n (by omega))
  have HHm := Lib.hid (has_any (HC.out _ hb3).1 m (by omega))
  have HBl := Lib.hid (HBk.out _ hb3)
  clear hb1 hb2 hb3 x1 x2 x3 HBk
  by_cases q1 : f < 0
  case pos =>
    rw [if_pos (.inl q1)]
    have d1 : decide (f < 0) = true := decide_eq_true q1
    go_enter Tryz.func48, Tryz.ntmps48
    go_wp2_with fail
    refine bodyPost_ret (results_cell_tmp rfl _ _ (w.heap.size + 1 + 1) 41 #[.int .i64 0, .slice none 0 0, .slice none 0 0, .int .i64 0] (0, 0) _ rfl HX3.out Tryz.underlying41 rfl (by kernel_rfl)) rfl ?_
    exact ⟨_, rfl, (fun h => by cases h), fun _ => rfl, HB3.out⟩
  case neg =>
  have d1 : decide (f < 0) = false := decide_eq_false q1
  by_cases q3 : t ≤ f
  case pos =>
    rw [if_pos (.inr (.inr q3))]
    have d3 : decide (t ≤ f) = true := decide_eq_true q3
    go_enter Tryz.func48, Tryz.ntmps48
    go_wp2_with fail
    refine bodyPost_ret (results_cell_tmp rfl _ _ (w.heap.size + 1 + 1) 41 #[.int .i64 0, .slice none 0 0, .slice none 0 0, .int .i64 0] (0, 0) _ rfl HX3.out Tryz.underlying41 rfl (by kernel_rfl)) rfl ?_
    exact ⟨_, rfl, (fun h => by cases h), fun _ => rfl, HB3.out⟩
  case neg =>
  have d3 : decide (t ≤ f) = false := decide_eq_false q3
  by_cases q2 : 256 < t
  case pos =>
    rw [if_pos (.inr (.inl q2))]
    have d2 : decide (256 < t) = true := decide_eq_true q2
    go_enter Tryz.func48, Tryz.ntmps48
    go_wp2_with fail
    refine bodyPost_ret (results_cell_tmp rfl _ _ (w.heap.size + 1 + 1) 41 #[.int .i64 0, .slice none 0 0, .slice none 0 0, .int .i64 0] (0, 0) _ rfl HX3.out Tryz.underlying41 rfl (by kernel_rfl)) rfl ?_
    exact ⟨_, rfl, (fun h => by cases h), fun _ => rfl, HB3.out⟩
  case neg =>
  have d2 : decide (256 < t) = false := decide_eq_false q2
  rw [if_neg (show ¬ (f < 0 ∨ t > 256 ∨ f ≥ t) by omega)]
  obtain ⟨F, hF⟩ : ∃ F : Nat, f = (F : Int) := ⟨f.toNat, by omega⟩
  obtain ⟨T, hT⟩ : ∃ T : Nat, t = (T : Int) := ⟨t.toNat, by omega⟩
  have hFT : F < T := by omega
  have hT256 : T ≤ 256 := by omega
  clear q1 q2 q3
  by_cases q4 : n = m
  case pos =>
    rw [if_pos q4]
    have d4 : (n == m) = true := by simpa using q4
    have Q4 := Lib.hid q4
    clear q4 hF hT
    go_enter Tryz.func48, Tryz.ntmps48
    go_wp2_with fail
    refine bodyPost_ret (results_cell_tmp rfl _ _ (w.heap.size + 1 + 1) 41 #[.int .i64 0, .slice none 0 0, .slice none 0 0, .int .i64 0] (0, 0) _ rfl HX3.out Tryz.underlying41 rfl (by kernel_rfl)) rfl ?_
    exact ⟨_, rfl, (fun h => by cases h), fun _ => rfl, HB3.out⟩
  case neg =>
  rw [if_neg q4]
  have d4 : (n == m) = false := by simpa using q4
  have Q4 := Lib.hid q4
  clear q4
  by_cases q5 : n ∈ c.srv
  case neg =>
    rw [if_neg (fun h => q5 h.1)]
    rw [decide_eq_false q5] at HHn
    clear q5 hF hT
    go_enter Tryz.func48, Tryz.ntmps48
    go_wp2_with (first | (go_at_call 58; (with_reducible refine HHn.out.mono ?_); rintro e w' ⟨rfl, rfl⟩) | fail)
    refine bodyPost_ret (results_cell_tmp rfl _ _ (w.heap.size + 1 + 1) 41 #[.int .i64 0, .slice none 0 0, .slice none 0 0, .int .i64 0] (0, 0) _ rfl HX3.out Tryz.underlying41 rfl (by kernel_rfl)) rfl ?_
    exact ⟨_, rfl, (fun h => by cases h), fun _ => rfl, HB3.out⟩
  case pos =>
  rw [decide_eq_true q5] at HHn
  by_cases q6 : m ∈ c.srv
  case neg =>
    rw [if_neg (fun h => q6 h.2)]
    rw [decide_eq_false q6] at HHm
    clear q5 q6 hF hT
    go_enter Tryz.func48, Tryz.ntmps48
    go_wp2_with (first | (go_at_call 58; first | ((with_reducible refine HHn.out.mono ?_); rintro e w' ⟨rfl, rfl⟩) | ((with_reducible refine HHm.out.mono ?_); rintro e w' ⟨rfl, rfl⟩)) | fail)
    refine bodyPost_ret (results_cell_tmp rfl _ _ (w.heap.size + 1 + 1) 41 #[.int .i64 0, .slice none 0 0, .slice none 0 0, .int .i64 0] (0, 0) _ rfl HX3.out Tryz.underlying41 rfl (by kernel_rfl)) rfl ?_
    exact ⟨_, rfl, (fun h => by cases h), fun _ => rfl, HB3.out⟩
  case pos =>
  rw [if_pos ⟨q5, q6⟩]
  rw [decide_eq_true q6] at HHm
  clear q5 q6
  subst hF
  subst hT
  obtain ⟨P, hP⟩ : ∃ P, pts (placeC c.pts ⟨ok, n, m, F, T⟩) = P := ⟨_, rfl⟩
  have hPP : prt (fun j => if (F : Int) ≤ j ∧ j < (T : Int) then (n, m) else cop c.pts j) 256 0 [] = P := hP
  rw [hP]
  have HPP := Lib.hid hPP
  clear hP hPP
  go_enter Tryz.func48, Tryz.ntmps48
  go_wp2_with (first | (go_at_call 58; first | ((with_reducible refine HHn.out.mono ?_); rintro e w' ⟨rfl, rfl⟩) | ((with_reducible refine HHm.out.mono ?_); rintro e w' ⟨rfl, rfl⟩)) | fail)
  go_at_call 59
  refine HBl.out.mono ?_
  rintro e w4 ⟨lv, rfl, ol, bl⟩
  obtain ⟨g, cap, hlv⟩ := ol.row (by rw [blkL_len]; omega)
  rw [blkL_len] at hlv
  subst hlv
  have hb4 := HB3.out.trans (bl.mono HB3.out.size)
  have hx1 := (bl.block _ (lt_of HX1.out)).trans HX1.out
  have hx2 := (bl.block _ (lt_of HX2.out)).trans HX2.out
  have hx3 := (bl.block _ (lt_of HX3.out)).trans HX3.out
  have hl3 := lt_of HX3.out
  have ho4 := ol
  have HL := Lib.hid (fun (W : World) (hb : Below (w.heap.size + 1 + 1 + 1) w4 W) => show W.heap[w.heap.size]? = _ ∧ W.heap[w.heap.size + 1]? = _ ∧ W.heap[w.heap.size + 1 + 1]? = _ from ⟨(hb.block _ (by omega)).trans hx1, (hb.block _ (by omega)).trans hx2, (hb.block _ (by omega)).trans hx3⟩)
  have HB4 := Lib.hid hb4
  have hsz4 : w.heap.size + 1 + 1 + 1 ≤ w4.heap.size := by have := lt_of hx3; omega
  have hbase : w.heap.size + 1 + 1 + 1 ≤ (((w.alloc (.cells #[.int .i64 c.e, .slice A1 c.srv.length c1, .slice A2 c.pts.length c2, .int .i64 c.t] 41)).alloc (.cells #[.int .i64 ok, .int .i64 n, .int .i64 m, .int .i64 (F : Int), .int .i64 (T : Int)] 31)).alloc (.cells #[.int .i64 0, .slice none 0 0, .slice none 0 0, .int .i64 0] 41)).heap.size := by simp
  have HO4 := Lib.hid (show OwnsP 84 w4 (w.heap.size + 1 + 1 + 1) (.slice (some ⟨g, 0, none⟩) 256 cap) (blkL (cop c.pts) 256) from owns_mono ho4 hbase)
  have e3 : w4.cell? ⟨w.heap.size + 1, 3, none⟩ = some (.int .i64 (F : Int)) := cell_of_row _ _ 3 _ _ _ hx2
  clear ol bl hb4 hx1 hx2 hx3 HX1 HX2 HX3 HB3 HBl ho4 hl3 hbase HHn HHm d1 d2 d3 d4
  go_wp2_with fail
  go_loopw [7] (fun kv wr => ∃ k : Nat, F ≤ k ∧ k ≤ T ∧ kv = .int .i64 k ∧ Below (w.heap.size + 1 + 1 + 1) w4 wr ∧ OwnsP 84 wr (w.heap.size + 1 + 1 + 1) (.slice (some ⟨g, 0, none⟩) 256 cap) (blkL (fun j => if (F : Int) ≤ j ∧ j < (k : Int) then (n, m) else cop c.pts j) 256)) (fun kv _ => T - (intOf kv).toNat)
  case atStart =>
    refine ⟨F, Nat.le_refl _, by omega, rfl, Below.refl _ _, ?_⟩
    have : blkL (fun j => if (F : Int) ≤ j ∧ j < (F : Int) then (n, m) else cop c.pts j) 256 = blkL (cop c.pts) 256 := blkL_congr fun k _ => if_neg (by omega)
    rw [this]; exact HO4.out
  case round =>
    obtain ⟨k, hk1, hk2, rfl, hb, ho⟩ := hrel
    obtain ⟨y1, y2, y3⟩ := HL.out _ hb
    have e1 : wr.cell? ⟨w.heap.size + 1, 1, none⟩ = some (.int .i64 n) := cell_of_row _ _ 1 _ _ _ y2
    have e2 : wr.cell? ⟨w.heap.size + 1, 2, none⟩ = some (.int .i64 m) := cell_of_row _ _ 2 _ _ _ y2
    have e4 : wr.cell? ⟨w.heap.size + 1, 4, none⟩ = some (.int .i64 (T : Int)) := cell_of_row _ _ 4 _ _ _ y2
    have HBr := Lib.hid hb
    have HO := Lib.hid ho
    have hsr : w.heap.size + 1 + 1 + 1 ≤ wr.heap.size := by have := hb.size; omega
    clear hb ho HO4 e3
    by_cases hlt : k < T
    · have hlI : (k : Int) < (T : Int) := by omega
      have hkI : (0 : Int) ≤ (k : Int) := by omega
      have hk256 : (k : Int) < 256 := by omega
      have HG := Lib.hid (blkL_get (fun j => if (F : Int) ≤ j ∧ j < (k : Int) then (n, m) else cop c.pts j) (show k < 256 by omega))
      obtain ⟨⟨p0, p1, p2, p3⟩, pz, hBg, hgl, -⟩ := HO.out.at_ HG.out
      have f0 := pz (k * 4)
      have f1 := pz (k * 4 + 1)
      have f2 := pz (k * 4 + 2)
      have f3 := pz (k * 4 + 3)
      have hn1 : g ≠ w.heap.size + 1 := by omega
      clear pz y1 y2 y3
      go_wp2
      go_roundw
      case rel =>
        have h8 := HO.out.set4 (f := 0) (t := 0) (a := n) (b := m) HG.out
        have e8 := blkL_set (fun j => if (F : Int) ≤ j ∧ j < (k : Int) then (n, m) else cop c.pts j) (fun j => if (F : Int) ≤ j ∧ j < ((k + 1 : Nat) : Int) then (n, m) else cop c.pts j) (n := 256) (k := k) (by omega) (fun j hj => by
          by_cases q : (F : Int) ≤ (j : Int) ∧ (j : Int) < (k : Int)
          · show (if _ then _ else _) = (if _ then _ else _)
            rw [if_pos q, if_pos (by omega)]
          · show (if _ then _ else _) = (if _ then _ else _)
            rw [if_neg q, if_neg (by omega)])
        have e7 : (if (F : Int) ≤ (k : Int) ∧ (k : Int) < ((k + 1 : Nat) : Int) then (n, m) else cop c.pts k) = (n, m) := if_pos (by omega)
        simp only [e7] at e8
        rw [e8] at h8
        exact ⟨k + 1, by omega, by omega, by go_num, (((HBr.out.setCell (p := ⟨g, k * 4, none⟩) hBg _).setCell (p := ⟨g, k * 4 + 1, none⟩) hBg _).setCell (p := ⟨g, k * 4 + 2, none⟩) hBg _).setCell (p := ⟨g, k * 4 + 3, none⟩) hBg _, h8⟩
      case measure => simp only [intOf]; omega
    · have hlI : ¬ (k : Int) < (T : Int) := by omega
      obtain rfl : k = T := by omega
      have HPa := Lib.hid (parts_any (w := wr) (v := .slice (some ⟨g, 0, none⟩) 256 cap) (gc := fun j => if (F : Int) ≤ j ∧ j < (k : Int) then (n, m) else cop c.pts j) HO.out.inP)
      rw [HPP.out] at HPa
      clear y1 y2 y3
      go_wp2_with fail
      go_at_call 61
      refine HPa.out.mono ?_
      rintro e w6 ⟨pv', rfl, o6, b6⟩
      obtain ⟨A6, n6, c6, hA6⟩ : ∃ A6 n6 c6, pv' = .slice A6 n6 c6 := by (obtain ⟨A', c', e, -⟩ := o6.inP); exact ⟨_, _, _, e⟩
      subst hA6
      have hb6 := HBr.out.trans (b6.mono (by omega))
      obtain ⟨hrn, -, hrr⟩ := HL.out _ hb6
      have hwr := HB4.out.trans (hb6.mono (by omega))
      have hs6 := b6.size
      have r0 : w6.cell? ⟨w.heap.size, 0, none⟩ = some (.int .i64 c.e) := cell_of_row _ _ 0 _ _ _ hrn
      have r1 : w6.cell? ⟨w.heap.size, 1, none⟩ = some (.slice A1 c.srv.length c1) := cell_of_row _ _ 1 _ _ _ hrn
      have r2 : w6.cell? ⟨w.heap.size, 2, none⟩ = some (.slice A2 c.pts.length c2) := cell_of_row _ _ 2 _ _ _ hrn
      have r3 : w6.cell? ⟨w.heap.size, 3, none⟩ = some (.int .i64 c.t) := cell_of_row _ _ 3 _ _ _ hrn
      have t0 : w6.cell? ⟨w.heap.size + 1 + 1, 0, none⟩ = some (.int .i64 0) := cell_of_row _ _ 0 _ _ _ hrr
      have t1 : w6.cell? ⟨w.heap.size + 1 + 1, 1, none⟩ = some (.slice none 0 0) := cell_of_row _ _ 1 _ _ _ hrr
      have t2 : w6.cell? ⟨w.heap.size + 1 + 1, 2, none⟩ = some (.slice none 0 0) := cell_of_row _ _ 2 _ _ _ hrr
      have t3 : w6.cell? ⟨w.heap.size + 1 + 1, 3, none⟩ = some (.int .i64 0) := cell_of_row _ _ 3 _ _ _ hrr
      have rf : w6.frozen? ⟨w.heap.size, 2, none⟩ = false := by unfold World.frozen?; simp only [hrn]; simp
      have tf : ∀ j, w6.frozen? ⟨w.heap.size + 1 + 1, j, none⟩ = false := fun j => by unfold World.frozen?; simp only [hrr]; simp
      have tf0 := tf 0
      have tf1 := tf 1
      have tf2 := tf 2
      have tf3 := tf 3
      have hrr' : (w6.setCell ⟨w.heap.size, 2, none⟩ (.slice A6 n6 c6)).heap[w.heap.size + 1 + 1]? = _ := (heap_set_eq (by omega) _ _).trans hrr
      obtain ⟨s1, s2⟩ := store4 hrr' (.int .i64 c.e) (.slice A1 c.srv.length c1) (.slice A6 n6 c6) (.int .i64 c.t)
      have hbs : Below w.heap.size w (w6.setCell ⟨w.heap.size, 2, none⟩ (.slice A6 n6 c6)) := hwr.setCell (p := ⟨w.heap.size, 2, none⟩) (Nat.le_refl _) _
      have hbf := hbs.grown s2 hbs.size (fun q hq => by cases hq; omega)
      have hof := owns_kept o6 (fun q hq => (s2.block q (by have := (OwnsP.lt o6 (g := q) hq).2; simpa using this) (fun e => by have := (OwnsP.lt o6 (g := q) hq).1; injection e with e; omega)).trans (heap_set_eq (fun e => by have := (OwnsP.lt o6 (g := q) hq).1; omega) _ _))
      have HS1 := Lib.hid s1
      have HBf := Lib.hid hbf
      have HOf := Lib.hid hof
      have HPf := Lib.hid (HC.out _ hbf).1
      clear hrn hrr hwr tf hrr' s1 s2 hbs hbf hof o6 b6 hb6 e1 e2 e4
      go_wp2_with fail
      refine bodyPost_ret (results_cell_tmp rfl _ _ (w.heap.size + 1 + 1) 41 #[.int .i64 c.e, .slice A1 c.srv.length c1, .slice A6 n6 c6, .int .i64 c.t] (0, 0) _ rfl HS1.out Tryz.underlying41 rfl (by kernel_rfl)) rfl ?_
      exact ⟨_, rfl, fun _ => ⟨_, _, _, _, rfl, rfl, .inl ⟨rfl, rfl⟩, .inr ⟨_, Nat.le_trans HB4.out.size HBr.out.size, HOf.out⟩⟩, (fun h => absurd rfl h), HBf.out⟩
end Go.Proofs.YthjinpbclfankaaGreatDoor
