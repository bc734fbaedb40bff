/-
  theirs (the law's): a config of the package, as the document's own. shown.
-/
import Derived.Test.YthjinpbclfankaaGreatDoorRc2
import Derived.Test.YthjinpbclfankaaGreatDoorPc7
import Derived.Deep.RegionLaw
namespace Go.Proofs.YthjinpbclfankaaGreatDoor
open Go.RowKit

theorem ownsP_len {e : TypeId} {w : World} {base n cap : Nat} {A : Option Addr} {l : List Pt} (h : OwnsP e w base (.slice A n cap) l) : n = l.length := by
  rcases h.form with ⟨e, rfl⟩ | ⟨g, cap', e, -⟩
  · simp only [Value.slice.injEq] at e; exact e.2.1
  · simp only [Value.slice.injEq] at e; exact e.2.1
set_option maxRecDepth 100000 in
set_option maxHeartbeats 4000000 in
theorem theirs_any {w : World} {v : Value} {c : Cf} (h : IC w v c) (hp : c.pts.length ≤ 100000) :
    Calls Tryz.prog 10 #[v] w fun e w' => ∃ v', e = .returned v' ∧ IC w' v' c ∧ Below w.heap.size w w' := by
  obtain ⟨i0, hi0, hz0, hz1, hz2⟩ := info_parts infoRP
  obtain ⟨sv, pv, rfl, HC⟩ := h.look
  obtain ⟨A1, c1, hA1, -⟩ := (HC.out _ (Below.refl _ _)).1
  obtain ⟨A2, c2, hA2, hc⟩ := (HC.out _ (Below.refl _ _)).2
  subst hA1
  subst hA2
  have HCP := Lib.hid hc
  clear h hc
  have hb1 : Below w.heap.size w (w.alloc (.cells #[.int .i64 c.e, .slice A1 c.srv.length c1, .slice A2 c.pts.length c2, .int .i64 c.t] 45)) := (Below.refl _ _).alloc (Nat.le_refl _) _
  have hb2 := hb1.alloc hb1.size (.cells #[.int .i64 0, .slice none 0 0, .slice none 0 0, .int .i64 0] 41)
  have hb3 := hb2.alloc hb2.size (.cells #[.int .i64 c.e, .slice A1 c.srv.length c1, .slice none 0 0, .int .i64 c.t] 41)
  have hx1 := (three_new w (.cells #[.int .i64 c.e, .slice A1 c.srv.length c1, .slice A2 c.pts.length c2, .int .i64 c.t] 45) (.cells #[.int .i64 0, .slice none 0 0, .slice none 0 0, .int .i64 0] 41) (.cells #[.int .i64 c.e, .slice A1 c.srv.length c1, .slice none 0 0, .int .i64 c.t] 41)).1
  have hx2 := (three_new w (.cells #[.int .i64 c.e, .slice A1 c.srv.length c1, .slice A2 c.pts.length c2, .int .i64 c.t] 45) (.cells #[.int .i64 0, .slice none 0 0, .slice none 0 0, .int .i64 0] 41) (.cells #[.int .i64 c.e, .slice A1 c.srv.length c1, .slice none 0 0, .int .i64 c.t] 41)).2.1
  have hx3 := (three_new w (.cells #[.int .i64 c.e, .slice A1 c.srv.length c1, .slice A2 c.pts.length c2, .int .i64 c.t] 45) (.cells #[.int .i64 0, .slice none 0 0, .slice none 0 0, .int .i64 0] 41) (.cells #[.int .i64 c.e, .slice A1 c.srv.length c1, .slice none 0 0, .int .i64 c.t] 41)).2.2
  have hs3 : (((w.alloc (.cells #[.int .i64 c.e, .slice A1 c.srv.length c1, .slice A2 c.pts.length c2, .int .i64 c.t] 45)).alloc (.cells #[.int .i64 0, .slice none 0 0, .slice none 0 0, .int .i64 0] 41)).alloc (.cells #[.int .i64 c.e, .slice A1 c.srv.length c1, .slice none 0 0, .int .i64 c.t] 41)).heap.size = w.heap.size + 1 + 1 + 1 := by simp
  go_enter Tryz.func10, Tryz.ntmps10
  go_wp2_with fail
  generalize ((w.alloc (.cells #[.int .i64 c.e, .slice A1 c.srv.length c1, .slice A2 c.pts.length c2, .int .i64 c.t] 45)).alloc (.cells #[.int .i64 0, .slice none 0 0, .slice none 0 0, .int .i64 0] 41)).alloc (.cells #[.int .i64 c.e, .slice A1 c.srv.length c1, .slice none 0 0, .int .i64 c.t] 41) = w3 at hb3 hx1 hx2 hx3 hs3 ⊢
  have HB3 := Lib.hid hb3
  have HX1 := Lib.hid hx1
  have HX2 := Lib.hid hx2
  have HX3 := Lib.hid hx3
  have HS3 := Lib.hid hs3
  clear hb1 hb2 hb3 hx1 hx2 hx3 hs3
  go_loopw [4] (fun iv wr => ∃ (k : Nat) (A3 : Option Addr) (n3 c3 : Nat), k ≤ c.pts.length ∧ iv = .int .i64 k ∧ Below (w.heap.size + 1 + 1) w3 wr ∧ wr.heap[w.heap.size + 1 + 1]? = some (.cells #[.int .i64 c.e, .slice A1 c.srv.length c1, .slice A3 n3 c3, .int .i64 c.t] 41 (0, 0)) ∧ OwnsP 84 wr (w.heap.size + 1 + 1 + 1) (.slice A3 n3 c3) (c.pts.take k)) (fun iv _ => c.pts.length - (intOf iv).toNat)
  case atStart => exact ⟨0, _, _, _, Nat.zero_le _, rfl, Below.refl _ _, HX3.out, OwnsP.nil _ _ _⟩
  case round =>
    obtain ⟨k, A3, n3, c3, hk, rfl, hb, hx, ho⟩ := hrel
    have hw : Below w.heap.size w wr := HB3.out.trans (hb.mono (by omega))
    have hxc := (hb.block w.heap.size (by omega)).trans HX1.out
    have hxr := (hb.block (w.heap.size + 1) (by omega)).trans HX2.out
    have hsr : w.heap.size + 1 + 1 + 1 ≤ wr.heap.size := by have := hb.size; have := HS3.out; omega
    have r2 : wr.cell? ⟨w.heap.size, 2, none⟩ = some (.slice A2 c.pts.length c2) := cell_of_row _ _ 2 _ _ _ hxc
    have y0 : wr.cell? ⟨w.heap.size + 1 + 1, 0, none⟩ = some (.int .i64 c.e) := cell_of_row _ _ 0 _ _ _ hx
    have y1 : wr.cell? ⟨w.heap.size + 1 + 1, 1, none⟩ = some (.slice A1 c.srv.length c1) := cell_of_row _ _ 1 _ _ _ hx
    have y2 : wr.cell? ⟨w.heap.size + 1 + 1, 2, none⟩ = some (.slice A3 n3 c3) := cell_of_row _ _ 2 _ _ _ hx
    have y3 : wr.cell? ⟨w.heap.size + 1 + 1, 3, none⟩ = some (.int .i64 c.t) := cell_of_row _ _ 3 _ _ _ hx
    by_cases hlt : k < c.pts.length
    · obtain ⟨p, hxp⟩ : ∃ y, c.pts[k]? = some y := ⟨_, List.getElem?_eq_getElem hlt⟩
      obtain ⟨g, o, rfl, hg, hcl⟩ := HCP.out k p hxp
      obtain ⟨p0, p1, p2, p3⟩ := hcl.below hw hg
      have htk : c.pts.take (k + 1) = c.pts.take k ++ [p] := by rw [List.take_add_one, hxp]; rfl
      have hkI : (0 : Int) ≤ (k : Int) := by omega
      have hlI : (k : Int) < (c.pts.length : Int) := by omega
      have hl3 : k ≤ 100000 := by omega
      obtain ⟨pf, pt, pa, pb⟩ := p
      have hba : Below wr.heap.size wr (wr.alloc (.cells #[.int .i64 pf, .int .i64 pt, .int .i64 pa, .int .i64 pb] 84)).drew := ((Below.refl _ _).alloc (Nat.le_refl _) _).drew
      have hlk : (c.pts.take k).length = k := by rw [List.length_take]; omega
      obtain rfl : n3 = k := (ownsP_len ho).trans hlk
      have HOz := Lib.hid (show World.ownsRow _ _ _ 4 (.slice A3 n3 c3) n3 (pflat (c.pts.take n3)) by (have h := ho.below hba; unfold OwnsP at h; rw [hlk] at h; exact h))
      have HLK := Lib.hid hlk
      clear hlk
      have HSr := Lib.hid (fun j u h => show ((wr.alloc (.cells #[.int .i64 pf, .int .i64 pt, .int .i64 pa, .int .i64 pb] 84)).drew).cell? _ = _ from srcs_part 84 wr wr.heap.size rfl ⟨pf, pt, pa, pb⟩ j u h)
      have HNx := Lib.hid (fun (w2 : World) (hg : (wr.alloc (.cells #[.int .i64 pf, .int .i64 pt, .int .i64 pa, .int .i64 pb] 84)).drew.grownBy w2 (Value.slice A3 n3 c3).ownBlock) => show Below (w.heap.size + 1 + 1) w3 w2 ∧ w2.heap[w.heap.size + 1 + 1]? = some (.cells #[.int .i64 c.e, .slice A1 c.srv.length c1, .slice A3 n3 c3, .int .i64 c.t] 41 (0, 0)) from
        ⟨(hb.trans (hba.mono (by omega))).grown hg (by simp; omega) (fun q hq => by have := ((ho.below hba).lt (g := q) hq).1; omega), (hg.block _ (by simp; omega) (fun e => by have := ((ho.below hba).lt (g := w.heap.size + 1 + 1) e.symm).1; omega)).trans ((hba.block _ (by omega)).trans hx)⟩)
      have ya : ∀ o, (wr.alloc o).cell? ⟨w.heap.size + 1 + 1, 2, none⟩ = some (.slice A3 n3 c3) := fun o => (World.cell?_of_block (heap_alloc_old _ _ (show w.heap.size + 1 + 1 < wr.heap.size by omega))).trans y2
      clear hxc hxr hx ho hcl hw hba
      go_wp2_with fail
      refine wp_region_noPanic ?_
      go_region_law
        ((refine step_append_lies _ (by rfl) (.tmp 20) (.tmp 26) 39 (by rfl) (w.heap.size + 1 + 1 + 1) 84 i0 _ 4 32 Tryz.underlying39 hi0 hz0 hz1 hz2 rfl (by omega) (.slice A3 n3 c3) n3 (pflat (c.pts.take n3)) (by rfl) HOz.out ⟨wr.heap.size, 0, none⟩ 1 1 (pflat [⟨pf, pt, pa, pb⟩]) (by rfl) rfl HSr.out (pflat_one _) (by omega) (by unfold maxLen; omega) (by omega) (by simp; omega) (wr.heap.size + 1) (by simp) ?_; intro g2 cap2 w2 hown2 hgrow2 hat2 hlt2; (have hbz := HNx.out w2 hgrow2); (have z2 : w2.frozen? ⟨w.heap.size + 1 + 1, 2, none⟩ = false := by unfold World.frozen?; simp only [hbz.2]; simp); (have z3 := cell_of_row _ _ 2 _ _ _ hbz.2); have HOw := Lib.hid hown2; have HBw := Lib.hid hbz; clear hown2 hgrow2 hat2 hbz))
      all_goals
        refine NoPanic.normal ?_
        go_wp2_with fail
        go_roundw
        case rel =>
          have h9 := HOw.out
          rw [← pflat_append] at h9
          obtain ⟨hb9, hx9⟩ := HBw.out
          have h10 := heap_setCell_same _ _ 2 _ _ (.slice (some ⟨g2, 0, none⟩) (n3 + 1) cap2) hx9
          refine ⟨n3 + 1, _, _, _, by omega, by go_num, hb9.setCell (p := ⟨w.heap.size + 1 + 1, 2, none⟩) (Nat.le_refl _) _, h10, ?_⟩
          rw [htk]
          refine owns_kept (w := w2) ?_ fun q hq => heap_set_eq (fun e => ?_) _ _
          · rw [List.length_append, HLK.out]; exact h9
          · have := (OwnsP.lt (l := c.pts.take n3 ++ [⟨pf, pt, pa, pb⟩]) (by unfold OwnsP; rw [List.length_append, HLK.out]; exact h9) (g := q) hq).1
            omega
        case measure => simp only [intOf]; omega
    · have hlI : ¬ (k : Int) < (c.pts.length : Int) := by omega
      obtain rfl : k = c.pts.length := by omega
      have t0 : wr.cell? ⟨w.heap.size + 1, 0, none⟩ = some (.int .i64 0) := cell_of_row _ _ 0 _ _ _ hxr
      have t1 : wr.cell? ⟨w.heap.size + 1, 1, none⟩ = some (.slice none 0 0) := cell_of_row _ _ 1 _ _ _ hxr
      have t2 : wr.cell? ⟨w.heap.size + 1, 2, none⟩ = some (.slice none 0 0) := cell_of_row _ _ 2 _ _ _ hxr
      have t3 : wr.cell? ⟨w.heap.size + 1, 3, none⟩ = some (.int .i64 0) := cell_of_row _ _ 3 _ _ _ hxr
      have tf : ∀ j, wr.frozen? ⟨w.heap.size + 1, j, none⟩ = false := fun j => by unfold World.frozen?; simp only [hxr]; simp
      have tf0 := tf 0
      have tf1 := tf 1
      have tf2 := tf 2
      have tf3 := tf 3
      obtain ⟨s1, s2⟩ := store4 hxr (.int .i64 c.e) (.slice A1 c.srv.length c1) (.slice A3 n3 c3) (.int .i64 c.t)
      have hbf := hw.grown s2 hw.size (fun q hq => by cases hq; omega)
      rw [List.take_length] at ho
      have hof := OwnsP.inP (owns_kept ho (fun q hq => s2.block q (OwnsP.lt ho (g := q) hq).2 (fun e => by have := (OwnsP.lt ho (g := q) hq).1; injection e with e; omega)))
      have HS1 := Lib.hid s1
      have HBf := Lib.hid hbf
      have HOf := Lib.hid hof
      have HIf := Lib.hid (HC.out _ hbf).1
      clear hxc hxr hx ho hw tf s1 s2 hbf hof hb
      go_wp2_with fail
      refine bodyPost_ret (results_cell_row rfl _ _ (w.heap.size + 1) 41 #[.int .i64 c.e, .slice A1 c.srv.length c1, .slice A3 n3 c3, .int .i64 c.t] (0, 0) _ rfl HS1.out Tryz.underlying41 rfl (by kernel_rfl)) rfl ?_
      exact ⟨_, rfl, ⟨_, _, rfl, HIf.out, HOf.out⟩, HBf.out⟩
end Go.Proofs.YthjinpbclfankaaGreatDoor
