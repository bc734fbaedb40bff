/-
  leave (the document's own), by a contract.
-/
import Derived.Test.YthjinpbclfankaaGreatDoorRc5
namespace Go.Proofs.YthjinpbclfankaaGreatDoor
open Go.RowKit

theorem gone_more {l : List Int} {n : Int} {k : Nat} {y : Int} (h : l[k]? = some y) : goneS (l.take (k + 1)) n = goneS (l.take k) n ++ (if y ≠ n then [y] else []) := by
  unfold goneS
  rw [List.take_add_one, h, List.filter_append]
  congr 1
  show List.filter _ [y] = _
  by_cases hy : y ≠ n
  · rw [if_pos hy, List.filter_cons_of_pos (by simpa using hy)]; rfl
  · rw [if_neg hy, List.filter_cons_of_neg (by simpa using hy)]; rfl
theorem gone_le (l : List Int) (n : Int) : (goneS l n).length ≤ l.length := List.length_filter_le _ _
set_option maxRecDepth 100000 in
set_option maxHeartbeats 4000000 in
theorem rleave_any {w : World} {v : Value} {c : Cf} (h : IC w v c) (hs : srvOk (-1) c.srv = true) (hp : ptsOk c.srv 0 256 c.pts = true) (hpl : c.pts.length ≤ 100000) (n : Int) :
    Calls Tryz.prog 47 #[v, .int .i64 n] w fun e w' => RT12 w v c e w' { c with srv := goneS c.srv n, pts := pts (fun k => leaveC c.srv n (cop c.pts k)) } (if n ∈ c.srv then (if c.srv.length ≤ 2 then 110 else 0) else 3) := by
  obtain ⟨i0, hi0, hz0, hz1, hz2⟩ := info_parts infoInt
  have hl8 := srvOk_len8 hs
  have HBk := Lib.hid (fun (W : World) (hb : Below w.heap.size w W) => blocks_any (h.below hb) hp hpl)
  have HCo := Lib.hid (fun (k : Int) (h1 : 0 ≤ k) (h2 : k < 256) => cop_ok hp h1 h2)
  obtain ⟨sv, pv, rfl, HC⟩ := h.look
  obtain ⟨A1, c1, hA1, hc1⟩ := (HC.out _ (Below.refl _ _)).1
  obtain ⟨A2, c2, hA2, -⟩ := (HC.out _ (Below.refl _ _)).2
  subst hA1
  subst hA2
  have HS1 := Lib.hid hc1
  clear h hc1
  have hb1 : Below w.heap.size w (w.alloc (.cells #[.int .i64 c.e, .slice A1 c.srv.length c1, .slice A2 c.pts.length c2, .int .i64 c.t] 41)) := (Below.refl _ _).alloc (Nat.le_refl _) _
  have hb2 := hb1.alloc hb1.size (.cells #[.int .i64 0, .slice none 0 0, .slice none 0 0, .int .i64 0] 41)
  have hr := heap_alloc_new (w.alloc (.cells #[.int .i64 c.e, .slice A1 c.srv.length c1, .slice A2 c.pts.length c2, .int .i64 c.t] 41)) (.cells #[.int .i64 0, .slice none 0 0, .slice none 0 0, .int .i64 0] 41)
  rw [World.size_alloc] at hr
  have hrN : ((w.alloc (.cells #[.int .i64 c.e, .slice A1 c.srv.length c1, .slice A2 c.pts.length c2, .int .i64 c.t] 41)).alloc (.cells #[.int .i64 0, .slice none 0 0, .slice none 0 0, .int .i64 0] 41)).heap[w.heap.size]? = some (.cells #[.int .i64 c.e, .slice A1 c.srv.length c1, .slice A2 c.pts.length c2, .int .i64 c.t] 41 (0, 0)) := by
    rw [heap_alloc_old _ _ (by simp)]; exact heap_alloc_new w _
  have HB2 := Lib.hid hb2
  have HR := Lib.hid hr
  have HRN := Lib.hid hrN
  have HHn := Lib.hid (has_any (HC.out _ hb2).1 n (by omega))
  have HBl := Lib.hid (HBk.out _ hb2)
  have HOt := Lib.hid (fun (W : World) (hb : Below w.heap.size w W) (a b : Int) => other_any (HC.out W hb).1 a b (by omega))
  clear hb1 hb2 hr hrN HBk
  by_cases hm : n ∈ c.srv
  case neg =>
    rw [if_neg hm]
    rw [decide_eq_false hm] at HHn
    clear hm
    go_enter Tryz.func47, Tryz.ntmps47
    go_wp2_with (first | (go_at_call 58; (with_reducible refine HHn.out.mono ?_); rintro e w' ⟨rfl, rfl⟩) | fail)
    refine bodyPost_ret (results_cell_tmp rfl _ _ (w.heap.size + 1) 41 #[.int .i64 0, .slice none 0 0, .slice none 0 0, .int .i64 0] (0, 0) _ rfl HR.out Tryz.underlying41 rfl (by kernel_rfl)) rfl ?_
    exact ⟨_, rfl, (fun h => by cases h), fun _ => rfl, HB2.out⟩
  case pos =>
  rw [if_pos hm]
  rw [decide_eq_true hm] at HHn
  clear hm
  by_cases hl2 : c.srv.length ≤ 2
  case pos =>
    rw [if_pos hl2]
    have hl2I : (c.srv.length : Int) ≤ 2 := by omega
    go_enter Tryz.func47, Tryz.ntmps47
    go_wp2_with (first | (go_at_call 58; (with_reducible refine HHn.out.mono ?_); rintro e w' ⟨rfl, rfl⟩) | fail)
    refine bodyPost_ret (results_cell_tmp rfl _ _ (w.heap.size + 1) 41 #[.int .i64 0, .slice none 0 0, .slice none 0 0, .int .i64 0] (0, 0) _ rfl HR.out Tryz.underlying41 rfl (by kernel_rfl)) rfl ?_
    exact ⟨_, rfl, (fun h => by cases h), fun _ => rfl, HB2.out⟩
  case neg =>
  rw [if_neg hl2]
  have hl2I : ¬ (c.srv.length : Int) ≤ 2 := by omega
  obtain ⟨P, hP⟩ : ∃ P, pts (fun k => leaveC c.srv n (cop c.pts k)) = P := ⟨_, rfl⟩
  have hPP : prt (fun k => leaveC c.srv n (cop c.pts k)) 256 0 [] = P := hP
  rw [hP]
  have HPP := Lib.hid hPP
  clear hP hPP
  go_enter Tryz.func47, Tryz.ntmps47
  go_wp2_with (first | (go_at_call 58; (with_reducible refine HHn.out.mono ?_); rintro e w' ⟨rfl, rfl⟩) | fail)
  go_at_call 59
  refine HBl.out.mono ?_
  rintro e w4 ⟨lv, rfl, ol, bl⟩
  obtain ⟨g, cap, hlv⟩ := ol.row (by rw [blkL_len]; omega)
  rw [blkL_len] at hlv
  subst hlv
  have hb4 := HB2.out.trans (bl.mono HB2.out.size)
  have hx1 := (bl.block _ (lt_of HRN.out)).trans HRN.out
  have hx2 := (bl.block _ (lt_of HR.out)).trans HR.out
  have HL := Lib.hid (fun (W : World) (hb : Below (w.heap.size + 1 + 1) w4 W) => show W.heap[w.heap.size]? = _ ∧ W.heap[w.heap.size + 1]? = _ from ⟨(hb.block _ (by omega)).trans hx1, (hb.block _ (by omega)).trans hx2⟩)
  have HB4 := Lib.hid hb4
  have hsz4 : w.heap.size + 1 + 1 ≤ w4.heap.size := by have := lt_of hx2; omega
  have hbase : w.heap.size + 1 + 1 ≤ ((w.alloc (.cells #[.int .i64 c.e, .slice A1 c.srv.length c1, .slice A2 c.pts.length c2, .int .i64 c.t] 41)).alloc (.cells #[.int .i64 0, .slice none 0 0, .slice none 0 0, .int .i64 0] 41)).heap.size := by simp
  have HO4 := Lib.hid (show OwnsP 84 w4 (w.heap.size + 1 + 1) (.slice (some ⟨g, 0, none⟩) 256 cap) (blkL (cop c.pts) 256) from owns_mono ol hbase)
  clear ol bl hb4 hx1 hx2 HR HRN HB2 HBl hbase HHn
  go_wp2_with fail
  go_loopw [7] (fun kv wr => ∃ k : Nat, k ≤ 256 ∧ kv = .int .i64 k ∧ Below (w.heap.size + 1 + 1) w4 wr ∧ OwnsP 84 wr (w.heap.size + 1 + 1) (.slice (some ⟨g, 0, none⟩) 256 cap) (blkL (fun j => if j < (k : Int) then leaveC c.srv n (cop c.pts j) else cop c.pts j) 256)) (fun kv _ => 256 - (intOf kv).toNat)
  case atStart =>
    refine ⟨0, Nat.zero_le _, rfl, Below.refl _ _, ?_⟩
    have : blkL (fun j => if j < ((0 : Nat) : Int) then leaveC c.srv n (cop c.pts j) else cop c.pts j) 256 = blkL (cop c.pts) 256 := blkL_congr fun k _ => if_neg (by omega)
    rw [this]; exact HO4.out
  case round =>
    obtain ⟨k, hk2, rfl, hb, ho⟩ := hrel
    have HBr := Lib.hid hb
    have HO := Lib.hid ho
    have hsr : w.heap.size + 1 + 1 ≤ wr.heap.size := by have := hb.size; omega
    obtain ⟨y1, y2⟩ := HL.out _ hb
    have r1 : wr.cell? ⟨w.heap.size, 1, none⟩ = some (.slice A1 c.srv.length c1) := cell_of_row _ _ 1 _ _ _ y1
    have HWr := Lib.hid (HB4.out.trans (hb.mono (by omega)))
    clear hb ho HO4
    by_cases hlt : k < 256
    · have hlI : (k : Int) < 256 := by omega
      have hkI : (0 : Int) ≤ (k : Int) := by omega
      have hG := blkL_get (fun j => if j < (k : Int) then leaveC c.srv n (cop c.pts j) else cop c.pts j) (show k < 256 by omega)
      have e7 : (if (k : Int) < (k : Int) then leaveC c.srv n (cop c.pts k) else cop c.pts k) = cop c.pts k := if_neg (by omega)
      simp only [e7] at hG
      have HSt := Lib.hid (show ∀ q : Pt, q = ⟨0, 0, (leaveC c.srv n (cop c.pts k)).1, (leaveC c.srv n (cop c.pts k)).2⟩ → (blkL (fun j => if j < (k : Int) then leaveC c.srv n (cop c.pts j) else cop c.pts j) 256).set k q = blkL (fun j => if j < ((k + 1 : Nat) : Int) then leaveC c.srv n (cop c.pts j) else cop c.pts j) 256 from fun q hq => by
        have e8 := blkL_set (fun j => if j < (k : Int) then leaveC c.srv n (cop c.pts j) else cop c.pts j) (fun j => if j < ((k + 1 : Nat) : Int) then leaveC c.srv n (cop c.pts j) else cop c.pts j) (n := 256) (k := k) (by omega) (fun j hj => by
          by_cases q : (j : Int) < (k : Int)
          · show (if _ then _ else _) = (if _ then _ else _)
            rw [if_pos q, if_pos (by omega)]
          · show (if _ then _ else _) = (if _ then _ else _)
            rw [if_neg q, if_neg (by omega)])
        have e7 : (if (k : Int) < ((k + 1 : Nat) : Int) then leaveC c.srv n (cop c.pts k) else cop c.pts k) = leaveC c.srv n (cop c.pts k) := if_pos (by omega)
        simp only [e7] at e8
        rw [hq]; exact e8)
      obtain ⟨_, _, hcne⟩ := HCo.out k hkI hlI
      generalize blkL (fun j => if j < (k : Int) then leaveC c.srv n (cop c.pts j) else cop c.pts j) 256 = L at HO hG HSt
      have hLv : leaveC c.srv n (cop c.pts k) = leaveC c.srv n ((cop c.pts k).1, (cop c.pts k).2) := rfl
      rw [hLv] at HSt
      clear hLv
      generalize (cop c.pts k).1 = pa at hG HSt hcne
      generalize (cop c.pts k).2 = pb at hG HSt hcne
      have HG := Lib.hid hG
      obtain ⟨⟨p0, p1, p2, p3⟩, pz, hBg, hgl, -⟩ := HO.out.at_ hG
      replace p2 : wr.cell? ⟨g, k * 4 + 2, none⟩ = some (.int .i64 pa) := p2
      replace p3 : wr.cell? ⟨g, k * 4 + 3, none⟩ = some (.int .i64 pb) := p3
      have f2 := pz (k * 4 + 2)
      have f3 := pz (k * 4 + 3)
      have hn1 : g ≠ w.heap.size := by omega
      have hn2 : w.heap.size ≠ g := fun e => hn1 e.symm
      clear pz y1 y2 hG p0 p1
      by_cases h1 : pa = n
      · have e1 : (pa == n) = true := by simpa using h1
        have e2 : (pb == n) = false := by
          have : pb ≠ n := fun e => hcne (h1.trans e.symm)
          simpa using this
        have H1 := Lib.hid h1
        clear h1 hcne
        have HOa := Lib.hid (HOt.out wr.drew (HWr.out.drew) n pb)
        go_wp2_with fail
        go_region_with (go_at_call 60; (with_reducible refine HOa.out.mono ?_); rintro e w5 ⟨rfl, rfl⟩)
        all_goals
          go_wp2_with fail
          go_roundw
          case rel =>
            have hst : OwnsP 84 (wr.drew.setCell ⟨g, k * 4 + 2, none⟩ (.int .i64 (othS c.srv n pb))) (w.heap.size + 1 + 1) (.slice (some ⟨g, 0, none⟩) 256 cap) (L.set k ⟨0, 0, othS c.srv n pb, pb⟩) := OwnsP.set1 (w := wr.drew) HO.out HG.out (by omega) rfl
            rw [HSt.out _ (by unfold leaveC; rw [if_pos (show (pa, pb).1 = n from H1.out)])] at hst
            exact ⟨k + 1, by omega, by go_num, (HBr.out.drew).setCell (p := ⟨g, k * 4 + 2, none⟩) hBg _, hst⟩
          case measure => simp only [intOf]; omega
      · have e1 : (pa == n) = false := by simpa using h1
        have H1 := Lib.hid h1
        clear h1
        by_cases h2 : pb = n
        · have e2 : (pb == n) = true := by simpa using h2
          have H2 := Lib.hid h2
          clear h2
          have HOa := Lib.hid (HOt.out wr.drew (HWr.out.drew) n pa)
          go_wp2_with fail
          go_region_with (go_at_call 60; (with_reducible refine HOa.out.mono ?_); rintro e w5 ⟨rfl, rfl⟩)
          all_goals
            go_wp2_with fail
            go_roundw
            case rel =>
              have hst : OwnsP 84 (wr.drew.setCell ⟨g, k * 4 + 3, none⟩ (.int .i64 (othS c.srv n pa))) (w.heap.size + 1 + 1) (.slice (some ⟨g, 0, none⟩) 256 cap) (L.set k ⟨0, 0, pa, othS c.srv n pa⟩) := OwnsP.set1 (w := wr.drew) HO.out HG.out (by omega) rfl
              rw [HSt.out _ (by unfold leaveC; rw [if_neg (show ¬ (pa, pb).1 = n from H1.out), if_pos (show (pa, pb).2 = n from H2.out)])] at hst
              exact ⟨k + 1, by omega, by go_num, (HBr.out.drew).setCell (p := ⟨g, k * 4 + 3, none⟩) hBg _, hst⟩
            case measure => simp only [intOf]; omega
        · have e2 : (pb == n) = false := by simpa using h2
          have H2 := Lib.hid h2
          clear h2
          go_wp2_with fail
          go_roundw
          case rel =>
            have hst := HSt.out _ (by unfold leaveC; rw [if_neg (show ¬ (pa, pb).1 = n from H1.out), if_neg (show ¬ (pa, pb).2 = n from H2.out)])
            rw [set_self HG.out] at hst
            exact ⟨k + 1, by omega, by go_num, HBr.out, by rw [← hst]; exact HO.out⟩
          case measure => simp only [intOf]; omega
    · have hlI : ¬ (k : Int) < 256 := by omega
      obtain rfl : k = 256 := by omega
      have hLe : blkL (fun j => if j < ((256 : Nat) : Int) then leaveC c.srv n (cop c.pts j) else cop c.pts j) 256 = blkL (fun j => leaveC c.srv n (cop c.pts j)) 256 := blkL_congr fun q hq => if_pos (by omega)
      have ho := HO.out
      rw [hLe] at ho
      have HOl := Lib.hid ho
      clear ho hLe HO y1 y2
      have hbe : Below (w.heap.size + 1 + 1) w4 (wr.alloc (.cells #[] 3)) := HBr.out.alloc hsr _
      have hole : OwnsP 84 (wr.alloc (.cells #[] 3)) (w.heap.size + 1 + 1) (.slice (some ⟨g, 0, none⟩) 256 cap) (blkL (fun j => leaveC c.srv n (cop c.pts j)) 256) := HOl.out.below ((Below.refl _ _).alloc (Nat.le_refl _) _)
      have hoi : OwnsI (wr.alloc (.cells #[] 3)) wr.heap.size (.slice (some ⟨wr.heap.size, 0, none⟩) 0 0) [] := lit_ints _ wr.heap.size rfl [] #[] rfl (by simp)
      have hgwr : g < wr.heap.size := (OwnsP.lt HOl.out (g := g) rfl).2
      go_wp2_with fail
      obtain ⟨Z, hZ⟩ : ∃ Z, wr.heap.size = Z := ⟨_, rfl⟩
      rw [hZ] at hoi hgwr hsr ⊢
      have HOi := Lib.hid hoi
      have HOle := Lib.hid hole
      have HBe := Lib.hid hbe
      have HZ := Lib.hid (show Z ≤ (wr.alloc (.cells #[] 3)).heap.size by simp; omega)
      clear hoi hole hbe HOl HBr HWr r1 hZ
      go_loopw [8, 9] (fun lv iv wr => ∃ (k : Nat) (A3 : Option Addr) (n3 c3 : Nat), k ≤ c.srv.length ∧ iv = .int .i64 k ∧ lv = .slice A3 n3 c3 ∧ Below (w.heap.size + 1 + 1) w4 wr ∧ OwnsP 84 wr (w.heap.size + 1 + 1) (.slice (some ⟨g, 0, none⟩) 256 cap) (blkL (fun j => leaveC c.srv n (cop c.pts j)) 256) ∧ OwnsI wr Z (.slice A3 n3 c3) (goneS (c.srv.take k) n) ∧ Z ≤ wr.heap.size) (fun _ iv _ => c.srv.length - (intOf iv).toNat)
      case atStart => exact ⟨0, _, _, _, Nat.zero_le _, rfl, rfl, HBe.out, HOle.out, HOi.out, HZ.out⟩
      case round =>
        obtain ⟨j, A3, n3, c3, hj, rfl, rfl, hb, hol, hos, hZr⟩ := hrel
        obtain ⟨y1, y2⟩ := HL.out _ hb
        have r1 : wr.cell? ⟨w.heap.size, 1, none⟩ = some (.slice A1 c.srv.length c1) := cell_of_row _ _ 1 _ _ _ y1
        have hwr := HB4.out.trans (hb.mono (by omega))
        have HBr := Lib.hid hb
        have HOl := Lib.hid hol
        have HOs := Lib.hid hos
        have hsr2 : w.heap.size + 1 + 1 ≤ wr.heap.size := by have := hb.size; omega
        clear hb hol hos HOi HOle HBe HZ
        by_cases hlt : j < c.srv.length
        · obtain ⟨x, hx⟩ : ∃ y, c.srv[j]? = some y := ⟨_, List.getElem?_eq_getElem hlt⟩
          obtain ⟨g1, o1, rfl, hg1, hcl⟩ := HS1.out j x hx
          have m1 := (hwr.cell (p := ⟨g1, o1 + j, none⟩) hg1).trans hcl
          have HMo := Lib.hid (gone_more (n := n) hx)
          have hln : (goneS (c.srv.take j) n).length ≤ 8 := Nat.le_trans (gone_le _ _) (by rw [List.length_take]; omega)
          have hlI : (j : Int) < (c.srv.length : Int) := by omega
          have hjI : (0 : Int) ≤ (j : Int) := by omega
          clear hx hcl y1 y2
          by_cases h1 : x = n
          · have e1 : (x != n) = false := by simpa using h1
            have H1 := Lib.hid h1
            clear h1
            go_wp2_with fail
            go_roundw
            case rel =>
              refine ⟨j + 1, A3, n3, c3, by omega, by go_num, rfl, HBr.out, HOl.out, ?_, hZr⟩
              rw [HMo.out, if_neg (fun h => h H1.out), List.append_nil]
              exact HOs.out
            case measure => simp only [intOf]; omega
          · have e1 : (x != n) = true := by simpa using h1
            have H1 := Lib.hid h1
            clear h1
            have HAo := Lib.hid (show OwnsI (wr.alloc (.cells #[.int .i64 x] 3)) Z (.slice A3 n3 c3) (goneS (c.srv.take j) n) from HOs.out.below ((Below.refl _ _).alloc (Nat.le_refl _) _))
            have HAl := Lib.hid (show OwnsP 84 (wr.alloc (.cells #[.int .i64 x] 3)) (w.heap.size + 1 + 1) (.slice (some ⟨g, 0, none⟩) 256 cap) (blkL (fun j => leaveC c.srv n (cop c.pts j)) 256) from OwnsP.below HOl.out ((Below.refl _ _).alloc (Nat.le_refl _) _))
            have HSr := Lib.hid (srcs_int wr wr.heap.size rfl x)
            have HBa := Lib.hid (show Below (w.heap.size + 1 + 1) w4 (wr.alloc (.cells #[.int .i64 x] 3)) from HBr.out.alloc hsr2 _)
            go_wp2_with (at_builtin; refine wpList_append_own _ rfl (.tmp 84) (.tmp 90) 38 rfl Z 3 i0 _ 1 8 Tryz.underlying38 hi0 hz0 hz1 hz2 rfl (by decide) _ _ _ rfl HAo.out ⟨wr.heap.size, 0, none⟩ 1 1 [.int .i64 x] rfl rfl HSr.out (by intro u hu; obtain rfl := List.mem_singleton.1 hu; rfl) (by unfold maxLen; omega) (by omega) (by simp; omega) ?_; intro v' w9 hown9 hgrow9 _; have HOw := Lib.hid hown9; have HGr := Lib.hid hgrow9; clear hown9 hgrow9)
            go_roundw
            case rel =>
              have h9 := HOw.out
              have h8 : OwnsI w9 Z v' (goneS (c.srv.take (j + 1)) n) := by
                rw [HMo.out, if_pos H1.out]
                unfold OwnsI
                rw [List.length_append, List.map_append]
                exact h9
              have h7 := owns_kept HAl.out (fun q hq => HGr.out.block q (OwnsP.lt HAl.out (g := q) hq).2 (fun e => by
                have a1 := (HAo.out.lt (g := q) e.symm).1
                have a2 : g = q := by simpa [Value.ownBlock] using hq
                omega))
              obtain ⟨A9, n9, c9, hA9⟩ : ∃ A9 n9 c9, v' = .slice A9 n9 c9 := by (obtain ⟨A', c', e, -⟩ := h8.inI); exact ⟨_, _, _, e⟩
              subst hA9
              exact ⟨j + 1, A9, n9, c9, by omega, by go_num, rfl, HBa.out.grown HGr.out (by simp; omega) (fun q hq => Nat.le_trans hsr (HAo.out.lt (g := q) hq).1), h7, h8, Nat.le_trans hZr (Nat.le_trans (by simp) HGr.out.size)⟩
            case measure => simp only [intOf]; omega
        · have hlI : ¬ (j : Int) < (c.srv.length : Int) := by omega
          have hjl : c.srv.take j = c.srv := List.take_of_length_le (by omega)
          have hos := HOs.out
          rw [hjl] at hos
          have HOt2 := Lib.hid hos
          have rf : wr.frozen? ⟨w.heap.size, 1, none⟩ = false := by unfold World.frozen?; simp only [y1]; simp
          have h5r := heap_setCell_same wr w.heap.size 1 _ _ (.slice A3 n3 c3) y1
          have hbs5 : Below (w.heap.size) w (wr.setCell ⟨w.heap.size, 1, none⟩ (.slice A3 n3 c3)) := hwr.setCell (p := ⟨w.heap.size, 1, none⟩) (Nat.le_refl _) _
          have hol5 := owns_kept HOl.out (fun q hq => heap_set_eq (w := wr) (g := w.heap.size) (k := q) (fun e => by have := (OwnsP.lt HOl.out (g := q) hq).1; omega) 1 (.slice A3 n3 c3))
          have hos5 := owns_kept HOt2.out (fun q hq => heap_set_eq (w := wr) (g := w.heap.size) (k := q) (fun e => by have := (HOt2.out.lt (g := q) hq).1; omega) 1 (.slice A3 n3 c3))
          have hx5 : (wr.setCell ⟨w.heap.size, 1, none⟩ (.slice A3 n3 c3)).heap[w.heap.size + 1]? = _ := (heap_set_eq (by omega) _ _).trans y2
          have HPa := Lib.hid (parts_any (w := wr.setCell ⟨w.heap.size, 1, none⟩ (.slice A3 n3 c3)) (v := .slice (some ⟨g, 0, none⟩) 256 cap) (gc := fun j => leaveC c.srv n (cop c.pts j)) (OwnsP.inP hol5))
          rw [HPP.out] at HPa
          have H5r := Lib.hid h5r
          have HX5 := Lib.hid hx5
          have HB5 := Lib.hid hbs5
          have HO5 := Lib.hid hos5
          clear hos h5r hbs5 hol5 hos5 hx5 y1 y2
          go_wp2_with fail
          go_at_call 61
          refine HPa.out.mono ?_
          rintro e w6 ⟨pv', rfl, o6, b6⟩
          obtain ⟨A6, n6, c6, hA6⟩ : ∃ A6 n6 c6, pv' = .slice A6 n6 c6 := by (obtain ⟨A', c', e, -⟩ := o6.inP); exact ⟨_, _, _, e⟩
          subst hA6
          have hrn := (b6.block _ (lt_of H5r.out)).trans H5r.out
          have hrr := (b6.block _ (lt_of HX5.out)).trans HX5.out
          have hwr6 := HB5.out.trans (b6.mono HB5.out.size)
          have hos6 : OwnsI w6 Z (.slice A3 n3 c3) (goneS c.srv n) := OwnsI.below HO5.out b6
          have hs6 := b6.size
          have hs5 : wr.heap.size = (wr.setCell ⟨w.heap.size, 1, none⟩ (.slice A3 n3 c3)).heap.size := by simp
          have q0 : w6.cell? ⟨w.heap.size, 0, none⟩ = some (.int .i64 c.e) := cell_of_row _ _ 0 _ _ _ hrn
          have q1 : w6.cell? ⟨w.heap.size, 1, none⟩ = some (.slice A3 n3 c3) := cell_of_row _ _ 1 _ _ _ hrn
          have q2 : w6.cell? ⟨w.heap.size, 2, none⟩ = some (.slice A2 c.pts.length c2) := cell_of_row _ _ 2 _ _ _ hrn
          have q3 : w6.cell? ⟨w.heap.size, 3, none⟩ = some (.int .i64 c.t) := cell_of_row _ _ 3 _ _ _ hrn
          have t0 : w6.cell? ⟨w.heap.size + 1, 0, none⟩ = some (.int .i64 0) := cell_of_row _ _ 0 _ _ _ hrr
          have t1 : w6.cell? ⟨w.heap.size + 1, 1, none⟩ = some (.slice none 0 0) := cell_of_row _ _ 1 _ _ _ hrr
          have t2 : w6.cell? ⟨w.heap.size + 1, 2, none⟩ = some (.slice none 0 0) := cell_of_row _ _ 2 _ _ _ hrr
          have t3 : w6.cell? ⟨w.heap.size + 1, 3, none⟩ = some (.int .i64 0) := cell_of_row _ _ 3 _ _ _ hrr
          have rf6 : w6.frozen? ⟨w.heap.size, 2, none⟩ = false := by unfold World.frozen?; simp only [hrn]; simp
          have tf : ∀ j, w6.frozen? ⟨w.heap.size + 1, j, none⟩ = false := fun j => by unfold World.frozen?; simp only [hrr]; simp
          have tf0 := tf 0
          have tf1 := tf 1
          have tf2 := tf 2
          have tf3 := tf 3
          have hrr' : (w6.setCell ⟨w.heap.size, 2, none⟩ (.slice A6 n6 c6)).heap[w.heap.size + 1]? = _ := (heap_set_eq (by omega) _ _).trans hrr
          obtain ⟨s1, s2⟩ := store4 hrr' (.int .i64 c.e) (.slice A3 n3 c3) (.slice A6 n6 c6) (.int .i64 c.t)
          have hbs : Below w.heap.size w (w6.setCell ⟨w.heap.size, 2, none⟩ (.slice A6 n6 c6)) := hwr6.setCell (p := ⟨w.heap.size, 2, none⟩) (Nat.le_refl _) _
          have hbf := hbs.grown s2 hbs.size (fun q hq => by cases hq; omega)
          have hof := owns_kept o6 (fun q hq => (s2.block q (by have := (OwnsP.lt o6 (g := q) hq).2; simpa using this) (fun e => by have := (OwnsP.lt o6 (g := q) hq).1; injection e with e; omega)).trans (heap_set_eq (fun e => by have := (OwnsP.lt o6 (g := q) hq).1; omega) _ _))
          have hoi := owns_kept hos6 (fun q hq => (s2.block q (by have := (hos6.lt (g := q) hq).2; simpa using this) (fun e => by have := (hos6.lt (g := q) hq).1; injection e with e; omega)).trans (heap_set_eq (fun e => by have := (hos6.lt (g := q) hq).1; omega) _ _))
          have HS9 := Lib.hid s1
          have HBf := Lib.hid hbf
          have HOf := Lib.hid hof
          have HIf := Lib.hid hoi
          clear hrn hrr hwr tf hrr' s1 s2 hbs hbf hof hoi o6 b6 hos6 r1 rf hwr6
          go_wp2_with fail
          refine bodyPost_ret (results_cell_tmp rfl _ _ (w.heap.size + 1) 41 #[.int .i64 c.e, .slice A3 n3 c3, .slice A6 n6 c6, .int .i64 c.t] (0, 0) _ rfl HS9.out Tryz.underlying41 rfl (by kernel_rfl)) rfl ?_
          exact ⟨_, rfl, fun _ => ⟨_, _, _, _, rfl, rfl, .inr ⟨Z, by omega, HIf.out⟩, .inr ⟨_, HB5.out.size, HOf.out⟩⟩, (fun h => absurd rfl h), HBf.out⟩
end Go.Proofs.YthjinpbclfankaaGreatDoor
