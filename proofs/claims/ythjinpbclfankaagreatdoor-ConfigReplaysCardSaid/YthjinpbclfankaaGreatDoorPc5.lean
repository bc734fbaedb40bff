/-
  leave (package config), by a contract.
-/
import Derived.Test.YthjinpbclfankaaGreatDoorPc4
import Derived.Test.YthjinpbclfankaaGreatDoorPiece
namespace Go.Proofs.YthjinpbclfankaaGreatDoor
open Go.RowKit

theorem pflat_set {l : List Pt} {k j : Nat} {p p' : Pt} {v : Value} (h : l[k]? = some p) (hj : j < 4) (hp : p'.cells.toList = p.cells.toList.set j v) : (pflat l).set (k * 4 + j) v = pflat (l.set k p') := by
  induction l generalizing k with
  | nil => simp at h
  | cons q l ih =>
    have hq : q.cells.toList.length = 4 := by simp
    cases k with
    | zero =>
      simp at h
      subst h
      rw [pflat, List.set_cons_zero, pflat, hp, Nat.zero_mul, Nat.zero_add, List.set_append, if_pos (by omega)]
    | succ k =>
      simp only [List.getElem?_cons_succ] at h
      rw [pflat, List.set_cons_succ, pflat, List.set_append, if_neg (by omega), hq, ← ih h, show (k + 1) * 4 + j - 4 = k * 4 + j by omega]
/-- One number of a part is stored. -/
theorem CBv.setPart {w : World} {B b g n cap k j : Nat} {c : Cf} {sv : Value} {p p' : Pt} {x : Int} (h : CBv w B b c sv (.slice (some ⟨g, 0, none⟩) n cap)) (hk : c.pts[k]? = some p) (hj : j < 4) (hp : p'.cells.toList = p.cells.toList.set j (.int .i64 x)) :
    CBv (w.setCell ⟨g, k * 4 + j, none⟩ (.int .i64 x)) B b { c with pts := c.pts.set k p' } sv (.slice (some ⟨g, 0, none⟩) n cap) := by
  refine ⟨(heap_set_eq (fun e => h.neP (by rw [e]; rfl)) _ _).trans h.row, owns_kept h.srv fun q hq => heap_set_eq (fun e => h.neSP q hq (by rw [e]; rfl)) _ _, ?_, by simpa using h.lo⟩
  have hn : n = c.pts.length := by
    rcases h.pts.form with ⟨e, -⟩ | ⟨g', cap', e, -⟩
    · cases e
    · simp only [Value.slice.injEq] at e; exact e.2.1
  subst hn
  have h2 := (World.ownsRow.stored h.pts (k * 4 + j) (.int .i64 x)).1
  rw [pflat_set hk hj hp] at h2
  unfold OwnsP
  show World.ownsRow _ _ _ _ _ (c.pts.set k p').length (pflat (c.pts.set k p'))
  rw [List.length_set]; exact h2
theorem set_self {α : Type} {l : List α} {k : Nat} {p : α} (h : l[k]? = some p) : l.set k p = l := by
  obtain ⟨h1, h2⟩ := List.getElem?_eq_some_iff.1 h
  rw [← h2]; exact List.set_getElem_self h1
theorem change2 {c : Cf} {o : Od} (hk : o.k = 2) : change c o = if o.n ∈ c.srv then (if c.srv.length ≤ 2 then (110, c) else (0, { c with srv := goneS c.srv o.n, pts := pts (fun k => leaveC c.srv o.n (cop c.pts k)) })) else (3, c) := by
  unfold change; rw [if_neg (by omega), if_pos hk]
theorem lvP_a {l : List Int} {n : Int} {p : Pt} (h : p.a = n) : lvP l n p = { p with a := othS l n p.b } := by unfold lvP leaveC; rw [if_pos h]
theorem lvP_b {l : List Int} {n : Int} {p : Pt} (h : p.a ≠ n) (h2 : p.b = n) : lvP l n p = { p with b := othS l n p.a } := by unfold lvP leaveC; rw [if_neg h, if_pos h2]
theorem lvP_no {l : List Int} {n : Int} {p : Pt} (h : p.a ≠ n) (h2 : p.b ≠ n) : lvP l n p = p := by unfold lvP leaveC; rw [if_neg h, if_neg h2]
theorem CBv.part {w : World} {B b g n cap k : Nat} {c : Cf} {sv : Value} {p : Pt} (h : CBv w B b c sv (.slice (some ⟨g, 0, none⟩) n cap)) (hk : c.pts[k]? = some p) : PAt w g (k * 4) p ∧ (∀ j, w.frozen? ⟨g, j, none⟩ = false) ∧ B ≤ g ∧ g < w.heap.size := by
  rcases h.pts.form with ⟨e, -⟩ | ⟨g', cap', e, hb, -, -, ⟨cur, hcur⟩, hat⟩
  · cases e
  · simp only [Value.slice.injEq, Option.some.injEq, Addr.mk.injEq, and_true] at e
    obtain ⟨⟨rfl, -⟩, -, -⟩ := e
    exact ⟨hat k p hk, fun j => by unfold World.frozen?; simp only [hcur]; simp, hb, lt_of hcur⟩
set_option maxRecDepth 100000 in
set_option maxHeartbeats 4000000 in
theorem leave_any {w : World} {B b : Nat} {c : Cf} (h : CB w B b c) (hB : B ≤ w.heap.size) (hs : srvOk (-1) c.srv = true) (hs2 : 2 ≤ c.srv.length) (hp : ptsOk c.srv 0 256 c.pts = true) (hpl : c.pts.length ≤ 100000) (o : Od) (hk : o.k = 2) :
    Calls Tryz.prog 55 #[.pointer (some ⟨b, 0, none⟩), o.val] w fun e w' => e = .returned (.int .i64 (change c o).1) ∧ ((change c o).1 = 0 → CB w' B b (change c o).2) ∧ Kp B b w w' := by
  obtain ⟨sv, pv, h⟩ := h
  obtain ⟨A0, c0, hA0, -⟩ := h.srv.inI
  subst hA0
  have hpne : c.pts ≠ [] := fun e => by rw [e] at hp; simp [ptsOk] at hp
  obtain ⟨g, cap, rfl⟩ : ∃ g cap, pv = .slice (some ⟨g, 0, none⟩) c.pts.length cap := by
    rcases h.pts.form with ⟨-, e⟩ | ⟨g, cap, e, -⟩
    · exact absurd e hpne
    · exact ⟨g, cap, e⟩
  rw [change2 hk]
  obtain ⟨ok, n, m, f, t⟩ := o
  obtain rfl : ok = 2 := hk
  have hne : c.srv ≠ [] := fun e => by rw [e] at hs2; simp at hs2
  have hl8 := srvOk_len8 hs
  have hLJ : join (c.pts.map (lvP c.srv n)) = pts (fun k => leaveC c.srv n (cop c.pts k)) := leave_join hp n
  show Calls _ _ #[_, .agg #[.int .i64 2, .int .i64 n, .int .i64 m, .int .i64 f, .int .i64 t]] w fun e w' => e = .returned (.int .i64 (if n ∈ c.srv then (if c.srv.length ≤ 2 then ((110 : Int), c) else (0, { c with srv := goneS c.srv n, pts := pts (fun k => leaveC c.srv n (cop c.pts k)) })) else (3, c)).1) ∧ ((if n ∈ c.srv then (if c.srv.length ≤ 2 then ((110 : Int), c) else (0, { c with srv := goneS c.srv n, pts := pts (fun k => leaveC c.srv n (cop c.pts k)) })) else (3, c)).1 = 0 → CB w' B b (if n ∈ c.srv then (if c.srv.length ≤ 2 then ((110 : Int), c) else (0, { c with srv := goneS c.srv n, pts := pts (fun k => leaveC c.srv n (cop c.pts k)) })) else (3, c)).2) ∧ Kp B b w w'
  rw [← hLJ]
  clear hLJ
  have hb1 : Below w.heap.size w (w.alloc (.cells #[.int .i64 2, .int .i64 n, .int .i64 m, .int .i64 f, .int .i64 t] 26)) := (Below.refl _ _).alloc (Nat.le_refl _) _
  have HB := Lib.hid hb1
  have h1 := h.below hb1
  obtain ⟨k0, k1, k2, k3⟩ := h1.cells
  have H1 := Lib.hid h1
  have hblt := h.lt
  have HSea := Lib.hid (search_drawn h1.srv.inI hne (by omega) hs n)
  clear hb1 h k0 k3
  by_cases hm : n ∈ c.srv
  case neg =>
    rw [if_neg hm]
    rw [decide_eq_false hm] at HSea
    clear hm
    go_enter Tryz.func55, Tryz.ntmps55
    go_wp2_with fail
    go_quiet ((go_at_call 66; exact HSea.out _))
    go_wp2
    go_ret
    exact ⟨rfl, (fun h => by cases h), Kp.of ((below_drewN HB.out _).mono hB)⟩
  case pos =>
    rw [if_pos hm]
    rw [decide_eq_true hm] at HSea
    have HM := Lib.hid hm
    clear hm
    by_cases hl2 : c.srv.length ≤ 2
    case pos =>
      rw [if_pos hl2]
      have hl2I : (c.srv.length : Int) ≤ 2 := by omega
      go_enter Tryz.func55, Tryz.ntmps55
      go_wp2_with fail
      go_quiet ((go_at_call 66; exact HSea.out _))
      go_wp2
      go_ret
      exact ⟨rfl, (fun h => by cases h), Kp.of ((below_drewN HB.out _).mono hB)⟩
    case neg =>
      rw [if_neg hl2]
      obtain ⟨gn, hgn⟩ : ∃ gn, goneS c.srv n = gn := ⟨_, rfl⟩
      have hgl := goneS_len hs HM.out
      obtain ⟨ga1, ga2, ga3⟩ := gone_at hs HM.out
      have hgo := goneS_ok n hs
      have hloS := fun x => low_oth (l := c.srv) (n := n) (o := x) (by omega) ((srvOk_iff' _).1 hgo).2
      rw [hgn] at hgl ga1 hgo
      simp only [hgn] at hloS
      rw [hgn]
      obtain ⟨q, hq⟩ : ∃ q, posS c.srv n = q := ⟨_, rfl⟩
      rw [hq] at ga1 ga2 ga3 HSea
      have hl2I : ¬ (c.srv.length : Int) ≤ 2 := by omega
      have hqI : (q : Int) < 1000 := by omega
      have hqI0 : (0 : Int) ≤ (q : Int) := by omega
      have HLo := Lib.hid hloS
      have HGl := Lib.hid (show 2 ≤ gn.length by omega)
      have HGA := Lib.hid ga1
      have HGq := Lib.hid (show q < c.srv.length from ga3)
      have HPl := Lib.hid hpl
      have HL8 := Lib.hid hl8
      clear hloS hgl ga1 ga2 hgo hgn hq hs hp hl2 ga3 hs2 hl8
      go_enter Tryz.func55, Tryz.ntmps55
      go_wp2_with fail
      go_quiet ((go_at_call 66; exact HSea.out _))
      go_wp2_with fail
      have hbq := below_drewN HB.out nq
      have hq1 := H1.out.below (below_drewN (Below.refl _ _) nq)
      have ho1 : ((w.alloc (.cells #[.int .i64 2, .int .i64 n, .int .i64 m, .int .i64 f, .int .i64 t] 26)).drewN nq).heap[w.heap.size]? = some (.cells #[.int .i64 2, .int .i64 n, .int .i64 m, .int .i64 f, .int .i64 t] 26 (0, 0)) := heap_alloc_new w _
      generalize (w.alloc (.cells #[.int .i64 2, .int .i64 n, .int .i64 m, .int .i64 f, .int .i64 t] 26)).drewN nq = w1 at hbq hq1 ho1 ⊢
      clear k1 k2 HB H1 HSea
      have HDel := Lib.hid (delete_any hq1.srv hne HGq.out (by have := HL8.out; omega))
      rw [HGA.out] at HDel
      have HQ1 := Lib.hid hq1
      have HO1 := Lib.hid ho1
      have HB1 := Lib.hid hbq
      clear hq1 ho1 hbq
      go_at_call 68
      refine HDel.out.mono ?_
      rintro e w2 ⟨sv', rfl, o2, g2, n2⟩
      obtain ⟨A', n', c', hA'⟩ : ∃ A' n' c', sv' = .slice A' n' c' := by (obtain ⟨A', c', e, -⟩ := o2.inI); exact ⟨_, _, _, e⟩
      subst hA'
      obtain ⟨z1, z2, z3⟩ := HQ1.out.grown g2
      have hbl2 : b < w2.heap.size := Nat.lt_of_lt_of_le HQ1.out.lt g2.size
      have hc3 := CBv.setS HQ1.out g2 o2 (fun k hk => .inl (by rw [← n2]; exact hk))
      have ho2 : w2.heap[w.heap.size]? = some (.cells #[.int .i64 2, .int .i64 n, .int .i64 m, .int .i64 f, .int .i64 t] 26 (0, 0)) := (g2.block _ (lt_of HO1.out) (fun e => by
        obtain ⟨cur, hcur⟩ := owns_type HQ1.out.srv e.symm
        exact type_ne hcur HO1.out (by decide) rfl)).trans HO1.out
      have ho3 : (w2.setCell ⟨b, 1, none⟩ (.slice A' n' c')).heap[w.heap.size]? = some (.cells #[.int .i64 2, .int .i64 n, .int .i64 m, .int .i64 f, .int .i64 t] 26 (0, 0)) := (heap_set_eq (fun e => by omega) _ _).trans ho2
      have hb3 : Kp B b w (w2.setCell ⟨b, 1, none⟩ (.slice A' n' c')) := Kp.setB (Kp.of ((HB1.out.mono hB).grown g2 (by have := HB1.out.size; omega) (fun k hk => (HQ1.out.srv.lt hk).1))) 1 _
      have HC3 := Lib.hid hc3
      have HO3 := Lib.hid ho3
      have HB3 := Lib.hid hb3
      clear HDel o2 g2 n2 hc3 ho2 ho3 hb3 HQ1 HO1 HB1
      go_wp2_with fail
      generalize w2.setCell ⟨b, 1, none⟩ (.slice A' n' c') = w3 at HC3 HO3 HB3 ⊢
      clear z1 z2 z3 hbl2 hblt
      go_loopw [43] (fun iv wr => ∃ k : Nat, k ≤ c.pts.length ∧ iv = .int .i64 k ∧ CBv wr B b ⟨c.e, gn, (c.pts.take k).map (lvP c.srv n) ++ c.pts.drop k, c.t⟩ (.slice A' n' c') (.slice (some ⟨g, 0, none⟩) c.pts.length cap) ∧ Kp B b w wr ∧ wr.heap[w.heap.size]? = some (.cells #[.int .i64 2, .int .i64 n, .int .i64 m, .int .i64 f, .int .i64 t] 26 (0, 0))) (fun iv _ => c.pts.length - (intOf iv).toNat)
      case atStart => exact ⟨0, Nat.zero_le _, rfl, by simpa using HC3.out, HB3.out, HO3.out⟩
      case round =>
        obtain ⟨k, hk, rfl, hcr, hbr, hor⟩ := hrel
        obtain ⟨-, r1, r2, -⟩ := hcr.cells
        have hor1 : wr.cell? ⟨w.heap.size, 1, none⟩ = some (.int .i64 n) := cell_of_row wr _ 1 _ _ _ hor
        have hblr := hcr.lt
        have HCr := Lib.hid hcr
        have HBr := Lib.hid hbr
        have HOr := Lib.hid hor
        clear hcr hbr hor HC3 HO3 HB3
        by_cases hlt : k < c.pts.length
        · obtain ⟨p, hx⟩ : ∃ y, c.pts[k]? = some y := ⟨_, List.getElem?_eq_getElem hlt⟩
          have HX := Lib.hid hx
          have HMa := Lib.hid (map_at (lvP c.srv n) hx)
          obtain ⟨⟨-, -, p2, p3⟩, pz, hBg, hgl⟩ := HCr.out.part HMa.out
          have pf2 := pz (k * 4 + 2)
          have pf3 := pz (k * 4 + 3)
          have HNg := Lib.hid (show g ≠ w.heap.size from fun e => by
            obtain ⟨cur, hcur⟩ := owns_type HCr.out.pts (g := g) rfl
            exact type_ne hcur HOr.out (by decide) e)
          have hlI : (k : Int) < (c.pts.length : Int) := by omega
          have hkI : (0 : Int) ≤ (k : Int) := by omega
          obtain ⟨pf, pt, pa, pb⟩ := p
          replace p2 : wr.cell? ⟨g, k * 4 + 2, none⟩ = some (.int .i64 pa) := p2
          replace p3 : wr.cell? ⟨g, k * 4 + 3, none⟩ = some (.int .i64 pb) := p3
          clear hx pz
          by_cases h1 : n = pa
          · have e1 : (n == pa) = true := by simpa using h1
            have H1' := Lib.hid h1
            clear h1
            have HLw := Lib.hid (fun (W : World) (hb : Below wr.heap.size wr W) => lowest_any (HCr.out.srv.below hb).inI HGl.out pb)
            rw [HLo.out] at HLw
            go_wp2_with fail
            go_region_with (go_at_call 69; (with_reducible refine (HLw.out _ ?_).mono ?_); (exact (Below.refl _ _).drew); rintro e w4 ⟨rfl, rfl⟩)
            all_goals
              go_wp2
              go_roundw
              case rel =>
                have hst := (HCr.out.below ((Below.refl _ _).drew)).setPart (p' := lvP c.srv n ⟨pf, pt, pa, pb⟩) (x := othS c.srv n pb) HMa.out (j := 2) (by omega) (by rw [lvP_a H1'.out.symm]; rfl)
                rw [map_step _ HX.out] at hst
                exact ⟨k + 1, by omega, by go_num, hst, ((HBr.out.drew).setCell hBg _), (heap_set_eq (fun e => HNg.out e.symm) _ _).trans HOr.out⟩
              case measure => simp only [intOf]; omega
          · have e1 : (n == pa) = false := by simpa using h1
            have H1' := Lib.hid h1
            clear h1
            by_cases h2 : n = pb
            · have e2 : (n == pb) = true := by simpa using h2
              have H2' := Lib.hid h2
              clear h2
              have HLw := Lib.hid (fun (W : World) (hb : Below wr.heap.size wr W) => lowest_any (HCr.out.srv.below hb).inI HGl.out pa)
              rw [HLo.out] at HLw
              go_wp2_with fail
              go_region_with (go_at_call 69; (with_reducible refine (HLw.out _ ?_).mono ?_); (exact (Below.refl _ _).drew); rintro e w4 ⟨rfl, rfl⟩)
              all_goals
                go_wp2
                go_roundw
                case rel =>
                  have hst := (HCr.out.below ((Below.refl _ _).drew)).setPart (p' := lvP c.srv n ⟨pf, pt, pa, pb⟩) (x := othS c.srv n pa) HMa.out (j := 3) (by omega) (by rw [lvP_b (fun e => H1'.out e.symm) H2'.out.symm]; rfl)
                  rw [map_step _ HX.out] at hst
                  exact ⟨k + 1, by omega, by go_num, hst, ((HBr.out.drew).setCell hBg _), (heap_set_eq (fun e => HNg.out e.symm) _ _).trans HOr.out⟩
                case measure => simp only [intOf]; omega
            · have e2 : (n == pb) = false := by simpa using h2
              have H2' := Lib.hid h2
              clear h2
              go_wp2_with fail
              go_roundw
              case rel =>
                have hst := map_step (lvP c.srv n) HX.out
                rw [lvP_no (l := c.srv) (n := n) (p := ⟨pf, pt, pa, pb⟩) (fun e => H1'.out e.symm) (fun e => H2'.out e.symm), set_self HMa.out] at hst
                exact ⟨k + 1, by omega, by go_num, by rw [← hst]; exact HCr.out, HBr.out, HOr.out⟩
              case measure => simp only [intOf]; omega
        · have hlI : ¬ (k : Int) < (c.pts.length : Int) := by omega
          have hkl : k = c.pts.length := by omega
          subst hkl
          have hcr := HCr.out
          rw [List.take_length, List.drop_length, List.append_nil] at hcr
          have HJ := Lib.hid (join_any' hcr.pts.inP (by rw [List.length_map]; exact HPl.out))
          have HCk := Lib.hid hcr
          clear hcr HCr
          go_wp2_with fail
          go_at_call 70
          refine HJ.out.mono ?_
          rintro e w4 ⟨pv', rfl, o4, b4⟩
          obtain ⟨A4, n4, c4, hA4⟩ : ∃ A4 n4 c4, pv' = .slice A4 n4 c4 := by (obtain ⟨A', c', e, -⟩ := o4.inP); exact ⟨_, _, _, e⟩
          subst hA4
          have hc4 := HCk.out.setP b4 o4
          obtain ⟨-, -, y2, -⟩ := (HCk.out.below b4).cells
          have y3 := (HCk.out.below b4).free 2
          have hbl4 := (HCk.out.below b4).lt
          have HC4 := Lib.hid hc4
          have HB4 := Lib.hid ((Kp.setB (HBr.out.trans (b4.mono (Nat.le_trans hB HBr.out.size))) 2 (.slice A4 n4 c4)) : Kp B b w (w4.setCell ⟨b, 2, none⟩ (.slice A4 n4 c4)))
          clear hc4 o4 b4 HJ r1 r2 hor1
          go_wp2
          go_ret
          exact ⟨rfl, fun _ => ⟨_, _, HC4.out⟩, HB4.out⟩
end Go.Proofs.YthjinpbclfankaaGreatDoor
