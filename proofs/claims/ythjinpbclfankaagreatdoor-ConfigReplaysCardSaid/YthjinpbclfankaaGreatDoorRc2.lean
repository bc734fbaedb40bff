/-
  blocks, parts, other (the document's own), by contracts.
-/
import Derived.Test.YthjinpbclfankaaGreatDoorRc1
import Derived.Test.YthjinpbclfankaaGreatDoorPc3
import Derived.Test.YthjinpbclfankaaGreatDoorSrv
import Derived.StillTailTactics
import Derived.Deep.RegionWith
import Derived.Deep.RegionHeld3
import Derived.Deep.AppendLies
namespace Go.Proofs.YthjinpbclfankaaGreatDoor
open Go.RowKit

/-- The copies of the first n blocks, as parts without a range. -/
def blkL (g : Int → Int × Int) (n : Nat) : List Pt := (List.range n).map fun i : Nat => ⟨0, 0, (g (i : Int)).1, (g (i : Int)).2⟩
theorem blkL_len (g : Int → Int × Int) (n : Nat) : (blkL g n).length = n := by simp [blkL]
theorem blkL_more (g : Int → Int × Int) (n : Nat) : blkL g (n + 1) = blkL g n ++ [⟨0, 0, (g n).1, (g n).2⟩] := by unfold blkL; rw [List.range_succ, List.map_append]; rfl
theorem blkL_get (g : Int → Int × Int) {n k : Nat} (h : k < n) : (blkL g n)[k]? = some ⟨0, 0, (g k).1, (g k).2⟩ := by
  unfold blkL; rw [List.getElem?_map, List.getElem?_range h]; rfl
theorem blkL_congr {g g' : Int → Int × Int} {n : Nat} (h : ∀ k : Nat, k < n → g k = g' k) : blkL g n = blkL g' n := by
  unfold blkL
  apply List.map_congr_left
  intro k hk
  show (⟨0, 0, (g (k : Int)).1, (g (k : Int)).2⟩ : Pt) = ⟨0, 0, (g' (k : Int)).1, (g' (k : Int)).2⟩
  rw [h k (List.mem_range.1 hk)]
theorem blkL_set (g g' : Int → Int × Int) {n k : Nat} (hk : k < n) (h : ∀ j : Nat, j ≠ k → g' j = g j) : (blkL g n).set k ⟨0, 0, (g' k).1, (g' k).2⟩ = blkL g' n := by
  apply List.ext_getElem?
  intro j
  rw [List.getElem?_set]
  by_cases hj : k = j
  · subst hj
    rw [if_pos rfl, if_pos (by rw [blkL_len]; exact hk), blkL_get _ hk]
  · rw [if_neg hj]
    by_cases hjn : j < n
    · rw [blkL_get _ hjn, blkL_get _ hjn, h j (fun e => hj e.symm)]
    · rw [List.getElem?_eq_none (by rw [blkL_len]; omega), List.getElem?_eq_none (by rw [blkL_len]; omega)]
theorem OwnsI.drewN {w : World} {base : Nat} {v : Value} {l : List Int} (h : OwnsI w base v l) (n : Nat) : OwnsI (w.drewN n) base v l := h
set_option maxRecDepth 100000 in
set_option maxHeartbeats 4000000 in
theorem blocks_any {w : World} {v : Value} {c : Cf} (h : IC w v c) (hp : ptsOk c.srv 0 256 c.pts = true) (hpl : c.pts.length ≤ 100000) :
    Calls Tryz.prog 59 #[v] w fun e w' => ∃ v', e = .returned v' ∧ OwnsP 84 w' w.heap.size v' (blkL (cop c.pts) 256) ∧ Below w.heap.size w w' := by
  obtain ⟨i0, hi0, hz0, hz1, hz2⟩ := info_parts infoRP
  obtain ⟨sv, pv, rfl, HC⟩ := h.look
  obtain ⟨A, cp, hA, hc⟩ := (HC.out _ (Below.refl _ _)).2
  subst hA
  clear h HC
  have HCc := Lib.hid hc
  have HCP := Lib.hid (cop_part hp)
  have HP := Lib.hid hp
  clear hc hp
  have hb1 : Below w.heap.size w (w.alloc (.cells #[.int .i64 c.e, sv, .slice A c.pts.length cp, .int .i64 c.t] 41)) := (Below.refl _ _).alloc (Nat.le_refl _) _
  have HB := Lib.hid hb1
  have HE := Lib.hid (World.ownsRow_lit (base := w.heap.size + 1) (e := 84) (size := 4) (w.alloc (.cells #[.int .i64 c.e, sv, .slice A c.pts.length cp, .int .i64 c.t] 41)) #[] 0 (by simp) (by simp) rfl)
  have HW := Lib.hid (fun (W : World) (hb : Below (w.heap.size + 1) (w.alloc (.cells #[.int .i64 c.e, sv, .slice A c.pts.length cp, .int .i64 c.t] 41)) W) => (cells4_below rfl hb).2.2.1)
  clear hb1
  go_enter Tryz.func59, Tryz.ntmps59
  go_wp2_with fail
  have hbe : Below (w.heap.size + 1) (w.alloc (.cells #[.int .i64 c.e, sv, .slice A c.pts.length cp, .int .i64 c.t] 41)) ((w.alloc (.cells #[.int .i64 c.e, sv, .slice A c.pts.length cp, .int .i64 c.t] 41)).alloc (.cells #[] 84)) := (Below.refl _ _).alloc (by simp) _
  generalize hw1 : w.alloc (.cells #[.int .i64 c.e, sv, .slice A c.pts.length cp, .int .i64 c.t] 41) = w1 at HB HE HW hbe ⊢
  have hs1 : w1.heap.size = w.heap.size + 1 := by rw [← hw1, World.size_alloc]
  rw [hs1] at HE
  clear hw1
  have HBe := Lib.hid hbe
  have HS1 := Lib.hid hs1
  clear hbe
  go_loopw [3, 4] (fun lv iv wr => ∃ (k a : Nat) (A3 : Option Addr) (n3 c3 : Nat), k ≤ c.pts.length ∧ a ≤ 256 ∧ iv = .int .i64 k ∧ lv = .slice A3 n3 c3 ∧ ptsOk c.srv a 256 (c.pts.drop k) = true ∧ Below (w.heap.size + 1) w1 wr ∧ OwnsP 84 wr (w.heap.size + 1) (.slice A3 n3 c3) (blkL (cop c.pts) a)) (fun _ iv _ => c.pts.length - (intOf iv).toNat)
  case atStart =>
    refine ⟨0, 0, _, _, _, Nat.zero_le _, by omega, rfl, rfl, by simpa using HP.out, HBe.out, ?_⟩
    exact HE.out
  case round =>
    obtain ⟨k, a, A3, n3, c3, hk, ha, rfl, rfl, hs, hb, ho⟩ := hrel
    have r2 := HW.out _ hb
    have HBr := Lib.hid hb
    have HO := Lib.hid ho
    have HS := Lib.hid hs
    clear hb ho hs HE HBe hs1
    have hsr : w.heap.size < wr.heap.size := by have := HBr.out.size; have := HS1.out; omega
    by_cases hlt : k < c.pts.length
    · obtain ⟨p, hx⟩ : ∃ y, c.pts[k]? = some y := ⟨_, List.getElem?_eq_getElem hlt⟩
      have hs2 := HS.out
      rw [pts_step hx, Bool.and_eq_true, decide_eq_true_eq] at hs2
      obtain ⟨⟨q1, q2, -⟩, q3⟩ := hs2
      have hle := ptsOk_le q3
      obtain ⟨g, o, rfl, hg, hcl⟩ := HCc.out k p hx
      have HCl := Lib.hid (fun (W : World) (hW : Below (w.heap.size + 1) w1 W) => hcl.below (HB.out.trans (hW.mono (by omega))) hg)
      obtain ⟨t0, t1, t2, t3⟩ := HCl.out _ HBr.out
      have HPC := Lib.hid (fun j => HCP.out p (List.mem_of_getElem? hx) j)
      have HQ3 := Lib.hid q3
      have hlI : (k : Int) < (c.pts.length : Int) := by omega
      have hkI : (0 : Int) ≤ (k : Int) := by omega
      obtain ⟨pf, pt, pa, pb⟩ := p
      replace q1 : pf = (a : Int) := q1
      subst q1
      replace q2 : (a : Int) < pt := q2
      obtain ⟨b, hbt⟩ : ∃ b : Nat, pt = (b : Int) := ⟨pt.toNat, by omega⟩
      subst hbt
      replace hle : (b : Int) ≤ 256 := hle
      clear hx hcl q3
      go_wp2_with fail
      go_loopw [3, 5] (fun lv jv wx => ∃ (j : Nat) (A3 : Option Addr) (n3 c3 : Nat), a ≤ j ∧ j ≤ b ∧ jv = .int .i64 j ∧ lv = .slice A3 n3 c3 ∧ Below (w.heap.size + 1) w1 wx ∧ OwnsP 84 wx (w.heap.size + 1) (.slice A3 n3 c3) (blkL (cop c.pts) j)) (fun _ jv _ => b - (intOf jv).toNat)
      case atStart => exact ⟨a, A3, n3, c3, Nat.le_refl _, by omega, rfl, rfl, HBr.out, HO.out⟩
      case round =>
        obtain ⟨j, A4, n4, c4, hj1, hj2, rfl, rfl, hb, ho⟩ := hrel
        have r2' := HW.out _ hb
        obtain ⟨t0', t1', t2', t3'⟩ := HCl.out _ hb
        clear t0 t1 t2 t3 r2
        have hsx : w.heap.size < wr.heap.size := by have := hb.size; have := HS1.out; omega
        by_cases hlt2 : j < b
        · have hjI : (j : Int) < (b : Int) := by omega
          have hba : Below wr.heap.size wr (wr.alloc (.cells #[.int .i64 0, .int .i64 0, .int .i64 pa, .int .i64 pb] 84)).drew := ((Below.refl _ _).alloc (Nat.le_refl _) _).drew
          have HOz := Lib.hid (ho.below hba)
          have HBz := Lib.hid (hb.trans (hba.mono (by have := HS1.out; have := hb.size; omega)))
          have HSr := Lib.hid (fun j u h => show ((wr.alloc (.cells #[.int .i64 0, .int .i64 0, .int .i64 pa, .int .i64 pb] 84)).drew).cell? _ = _ from srcs_part 84 wr wr.heap.size rfl ⟨0, 0, pa, pb⟩ j u h)
          have HNx := Lib.hid (fun (w2 : World) (r : Option Nat) (hg : (wr.alloc (.cells #[.int .i64 0, .int .i64 0, .int .i64 pa, .int .i64 pb] 84)).drew.grownBy w2 (Value.slice A4 n4 c4).ownBlock) => show Below (w.heap.size + 1) w1 w2 from (hb.trans (hba.mono (by have := HS1.out; have := hb.size; omega))).grown hg (by simp; omega) (fun q hq => ((ho.below hba).lt (g := q) hq).1))
          clear hb ho HBr HO hba
          have hb256 : b ≤ 256 := by omega
          have hgw : wr.heap.size + 1 = wr.heap.size + 1 := rfl
          clear hgw
          go_wp2_with fail
          refine wp_region_noPanic ?_
          go_region_held3 (fun w' => w'.cell? ⟨w.heap.size, 2, none⟩ = some (.slice (some ⟨g, o, none⟩) c.pts.length cp) ∧ w'.cell? ⟨g, o + k * 4 + 2, none⟩ = some (.int .i64 pa) ∧ w'.cell? ⟨g, o + k * 4 + 3, none⟩ = some (.int .i64 pb)) (go_keep)
            (first | (refine step_append_lies _ (by rfl) (.tmp 32) (.tmp 46) 39 (by rfl) (w.heap.size + 1) 84 i0 _ 4 32 Tryz.underlying39 hi0 hz0 hz1 hz2 rfl (by omega) (.slice A4 n4 c4) (blkL (cop c.pts) j).length (pflat (blkL (cop c.pts) j)) (by rfl) HOz.out ⟨wr.heap.size, 0, none⟩ 1 1 (pflat [⟨0, 0, pa, pb⟩]) (by rfl) rfl HSr.out (pflat_one _) (by omega) (by rw [blkL_len]; unfold maxLen; omega) (by rw [blkL_len]; omega) (by simp; omega) (wr.heap.size + 1) (by simp) ?_; intro g2 cap2 w2 hown2 hgrow2 hat2 hlt2; (have hbz := HNx.out w2 none hgrow2); (have m2 := HW.out _ hbz); (obtain ⟨m0, m1, m3, m4⟩ := HCl.out _ hbz); have HOw := Lib.hid hown2; have HBw := Lib.hid hbz; clear hown2 hgrow2 hat2 hbz))
          all_goals
            refine NoPanic.normal ?_
            go_wp2
            go_roundw
            case rel =>
              have h9 := HOw.out
              have hcj : cop c.pts (j : Int) = (pa, pb) := HPC.out j (by show (a : Int) ≤ j; omega) (by show (j : Int) < b; omega)
              rw [← pflat_append] at h9
              have e9 : blkL (cop c.pts) j ++ [⟨0, 0, pa, pb⟩] = blkL (cop c.pts) (j + 1) := by rw [blkL_more, hcj]
              rw [e9] at h9
              refine ⟨j + 1, _, _, _, by omega, by omega, by go_num, rfl, HBw.out, ?_⟩
              unfold OwnsP
              rw [show (blkL (cop c.pts) (j + 1)).length = (blkL (cop c.pts) j).length + 1 by rw [blkL_len, blkL_len]]
              exact h9
            case measure => simp only [intOf]; omega
        · have hjI : ¬ (j : Int) < (b : Int) := by omega
          have HBx := Lib.hid hb
          have HOx := Lib.hid ho
          clear hb ho HBr HO
          obtain rfl : j = b := by omega
          go_wp2
          go_roundw
          case rel => exact ⟨k + 1, j, _, _, _, by omega, by omega, by go_num, rfl, HQ3.out, HBx.out, HOx.out⟩
          case measure => simp only [intOf]; omega
    · have hlI : ¬ (k : Int) < (c.pts.length : Int) := by omega
      have ha2 : a = 256 := by
        have := HS.out
        rw [List.drop_of_length_le (by omega)] at this
        simp [ptsOk] at this
        omega
      subst ha2
      go_wp2
      go_ret
      exact ⟨_, rfl, owns_mono HO.out (by omega), HB.out.trans (HBr.out.mono (by omega))⟩

theorem prt_succ (g : Int → Int × Int) (k : Nat) : prt g (k + 1) 0 [] = jn (prt g k 0 []) ⟨k, k + 1, (g k).1, (g k).2⟩ := by
  rw [prt_add g k 1]
  simp [prt]
theorem prt_len (g : Int → Int × Int) (k : Nat) : (prt g k 0 []).length ≤ k := by
  induction k with
  | zero => simp [prt]
  | succ k ih => rw [prt_succ]; have := jn_len (prt g k 0 []) ⟨k, k + 1, (g k).1, (g k).2⟩; omega
set_option maxRecDepth 100000 in
set_option maxHeartbeats 4000000 in
theorem parts_any {w : World} {v : Value} {gc : Int → Int × Int} (h : InP w v (blkL gc 256)) :
    Calls Tryz.prog 61 #[v] w fun e w' => ∃ v', e = .returned v' ∧ OwnsP 84 w' w.heap.size v' (prt gc 256 0 []) ∧ Below w.heap.size w w' := by
  obtain ⟨i0, hi0, hz0, hz1, hz2⟩ := info_parts infoRP
  obtain ⟨A, cp, hA, hc⟩ := h
  rw [blkL_len] at hA
  subst hA
  have HC := Lib.hid (fun (k : Nat) (hk : k < 256) => hc k _ (blkL_get gc hk))
  clear hc
  have HE := Lib.hid (World.ownsRow_lit (base := w.heap.size) (e := 84) (size := 4) w #[] 0 (Nat.le_refl _) (by simp) rfl)
  have HBe := Lib.hid (show Below w.heap.size w (w.alloc (.cells #[] 84)) from (Below.refl _ _).alloc (Nat.le_refl _) _)
  go_enter Tryz.func61, Tryz.ntmps61
  go_wp2_with fail
  go_loopw [3, 4] (fun lv iv wr => ∃ (k : Nat) (A3 : Option Addr) (n3 c3 : Nat), k ≤ 256 ∧ iv = .int .i64 k ∧ lv = .slice A3 n3 c3 ∧ Below w.heap.size w wr ∧ OwnsP 84 wr w.heap.size (.slice A3 n3 c3) (prt gc k 0 [])) (fun _ iv _ => 256 - (intOf iv).toNat)
  case atStart => exact ⟨0, _, _, _, Nat.zero_le _, rfl, rfl, HBe.out, HE.out⟩
  case round =>
    obtain ⟨k, A4, nn, c4, hk, rfl, rfl, hb, ho⟩ := hrel
    clear HE HBe
    by_cases hlt : k < 256
    · obtain ⟨g, o, rfl, hg, hcl⟩ := HC.out k hlt
      have hlen := prt_len gc k
      have HF := Lib.hid (prt_succ gc k)
      have HVc := Lib.hid (fun (W : World) (hb : Below w.heap.size w W) => show W.cell? ⟨g, o + k * 4 + 2, none⟩ = some (.int .i64 (gc k).1) ∧ W.cell? ⟨g, o + k * 4 + 3, none⟩ = some (.int .i64 (gc k).2) from ⟨(hcl.below hb hg).2.2.1, (hcl.below hb hg).2.2.2⟩)
      obtain ⟨m0, m1⟩ := HVc.out _ hb
      generalize prt gc k 0 [] = out at ho HF hlen
      generalize (gc k).1 = ga at HVc HF m0 m1
      generalize (gc k).2 = gb at HVc HF m0 m1
      have hkI : (0 : Int) ≤ (k : Int) := by omega
      have hlI : (k : Int) < 256 := by omega
      have hwk : IntKind.i64.wrap ((k : Int) + 1) = (k : Int) + 1 := IntWalk.i64_in _ (by omega)
      have hsz := hb.size
      have HB := Lib.hid hb
      have HO := Lib.hid ho
      clear hb ho hcl
      rcases list_last out with rfl | ⟨m, q, rfl⟩
      · have hnn : nn = 0 := by
          obtain ⟨A', c', e, -⟩ := HO.out.inP
          simp only [Value.slice.injEq] at e
          exact e.2.1
        subst hnn
        have hd0 : decide ((0 : Int) < 0) = false := by decide
        go_wp2_with fail
        go_quiet (fail)
        go_wp2_with fail
        have hbz0 := below_drewN HB.out nq
        have hoz0 : OwnsP 84 (wr.drewN nq) w.heap.size (.slice A4 0 c4) ([] : List Pt) := HO.out
        clear m0 m1 HB HO
        generalize wr.drewN nq = wz at hbz0 hoz0 ⊢
        obtain ⟨m0, m1⟩ := HVc.out _ hbz0
        have hszz := hbz0.size
        have hba : Below wz.heap.size wz (wz.alloc (.cells #[.int .i64 (k : Int), .int .i64 ((k : Int) + 1), .int .i64 ga, .int .i64 gb] 84)).drew := ((Below.refl _ _).alloc (Nat.le_refl _) _).drew
        have HOz := Lib.hid (hoz0.below hba)
        have HSr := Lib.hid (fun j u h => show ((wz.alloc (.cells #[.int .i64 (k : Int), .int .i64 ((k : Int) + 1), .int .i64 ga, .int .i64 gb] 84)).drew).cell? _ = _ from srcs_part 84 wz wz.heap.size rfl ⟨k, (k : Int) + 1, ga, gb⟩ j u h)
        have HNx := Lib.hid (fun (w2 : World) (hg : (wz.alloc (.cells #[.int .i64 (k : Int), .int .i64 ((k : Int) + 1), .int .i64 ga, .int .i64 gb] 84)).drew.grownBy w2 (Value.slice A4 0 c4).ownBlock) => show Below w.heap.size w w2 from (hbz0.trans (hba.mono hbz0.size)).grown hg (by simp; omega) (fun q hq => ((hoz0.below hba).lt (g := q) hq).1))
        clear hbz0 hoz0 hba
        refine wp_region_noPanic ?_
        go_region_held3 (fun w' => w'.cell? ⟨g, o + k * 4 + 2, none⟩ = some (.int .i64 ga) ∧ w'.cell? ⟨g, o + k * 4 + 3, none⟩ = some (.int .i64 gb)) (go_keep)
          (first | (refine step_append_lies _ (by rfl) (.tmp 53) (.tmp 69) 39 (by rfl) w.heap.size 84 i0 _ 4 32 Tryz.underlying39 hi0 hz0 hz1 hz2 rfl (by omega) (.slice A4 0 c4) ([] : List Pt).length (pflat ([] : List Pt)) (by rfl) HOz.out ⟨wz.heap.size, 0, none⟩ 1 1 (pflat [⟨(k : Int), (k : Int) + 1, ga, gb⟩]) (by rfl) rfl HSr.out (pflat_one _) (by omega) (by unfold maxLen; omega) (by omega) (by simp; omega) (wz.heap.size + 1) (by simp) ?_; intro g2 cap2 w2 hown2 hgrow2 hat2 hlt2; (have hbz := HNx.out w2 hgrow2); (obtain ⟨m2, m3⟩ := HVc.out _ hbz); have HOw := Lib.hid hown2; have HBw := Lib.hid hbz; clear hown2 hgrow2 hat2 hbz))
        all_goals
          refine NoPanic.normal ?_
          go_wp2
          go_roundw
          case rel =>
            have h9 := HOw.out
            rw [← pflat_append] at h9
            refine ⟨k + 1, _, _, _, by omega, by go_num, rfl, HBw.out, ?_⟩
            rw [HF.out, jn_nil _ (by show (k : Int) < (k : Int) + 1; omega), ← List.nil_append [(⟨(k : Int), (k : Int) + 1, ga, gb⟩ : Pt)]]
            unfold OwnsP
            rw [List.length_append]
            first | exact h9 | (rw [show (m ++ [(⟨qf, qt, qa, qb⟩ : Pt)]).length = m.length + 1 by simp] at h9 ⊢; exact h9)
          case measure => simp only [intOf]; omega
      · obtain ⟨g', cap', nq', hv, hnn, hml, hg', hcell, hfz⟩ := HO.out.tail
        simp only [Value.slice.injEq] at hv
        obtain ⟨hA4, hnq, hc4⟩ := hv
        subst hA4
        subst hnq
        subst hc4
        have HNN := Lib.hid hnn
        have hw : IntKind.i64.wrap ((nn : Int) - 1) = (m.length : Int) := (IntWalk.i64_in _ (by omega)).trans (by omega)
        have hmI : (0 : Int) ≤ (m.length : Int) := by omega
        have hmn : (m.length : Int) < (nn : Int) := by omega
        have hn0 : decide ((0 : Int) < (nn : Int)) = true := decide_eq_true (by omega)
        have hn0' : (0 : Int) < (nn : Int) := by omega
        have hn0n : decide (0 < nn) = true := decide_eq_true (by omega)
        have hnl : nn ≤ 256 := by rw [hnn]; omega
        have hlen' : (m ++ [q]).length ≤ 256 := by omega
        clear hnn hml hlen
        obtain ⟨qf, qt, qa, qb⟩ := q
        obtain ⟨-, q1, q2, q3⟩ := hcell
        by_cases g1 : qa = ga
        · have e1 : (qa == ga) = true := by simpa using g1
          have G1 := Lib.hid g1
          clear g1
          by_cases g2 : qb = gb
          · have e2 : (qb == gb) = true := by simpa using g2
            have G2 := Lib.hid g2
            clear g2
            go_wp2_with fail
            go_quiet (fail)
            go_wp2
            go_roundw
            case rel =>
              refine ⟨k + 1, _, _, _, by omega, by go_num, rfl, (below_drewN HB.out nq).setCell (p := ⟨g', m.length * 4 + 1, none⟩) hg' _, ?_⟩
              rw [HF.out, jn_same _ _ _ (by show (k : Int) < (k : Int) + 1; omega) ⟨G1.out, G2.out⟩]
              exact OwnsP.setT HNN.out (OwnsP.below HO.out (below_drewN (Below.refl _ _) nq)) ((k : Int) + 1)
            case measure => simp only [intOf]; omega
          · have e2 : (qb == gb) = false := by simpa using g2
            have hqs : ¬ ((⟨qf, qt, qa, qb⟩ : Pt).a = ga ∧ (⟨qf, qt, qa, qb⟩ : Pt).b = gb) := fun h => g2 h.2
            have HQs := Lib.hid hqs
            clear hqs g2
            go_wp2_with fail
            go_quiet (fail)
            go_wp2_with fail
            have hbz0 := below_drewN HB.out nq
            have hoz0 : OwnsP 84 (wr.drewN nq) w.heap.size (.slice (some ⟨g', 0, none⟩) nn c4) (m ++ [(⟨qf, qt, qa, qb⟩ : Pt)]) := HO.out
            clear m0 m1 HB HO
            generalize wr.drewN nq = wz at hbz0 hoz0 ⊢
            obtain ⟨m0, m1⟩ := HVc.out _ hbz0
            have hszz := hbz0.size
            have hba : Below wz.heap.size wz (wz.alloc (.cells #[.int .i64 (k : Int), .int .i64 ((k : Int) + 1), .int .i64 ga, .int .i64 gb] 84)).drew := ((Below.refl _ _).alloc (Nat.le_refl _) _).drew
            have HOz := Lib.hid (hoz0.below hba)
            have HSr := Lib.hid (fun j u h => show ((wz.alloc (.cells #[.int .i64 (k : Int), .int .i64 ((k : Int) + 1), .int .i64 ga, .int .i64 gb] 84)).drew).cell? _ = _ from srcs_part 84 wz wz.heap.size rfl ⟨k, (k : Int) + 1, ga, gb⟩ j u h)
            have HNx := Lib.hid (fun (w2 : World) (hg : (wz.alloc (.cells #[.int .i64 (k : Int), .int .i64 ((k : Int) + 1), .int .i64 ga, .int .i64 gb] 84)).drew.grownBy w2 (Value.slice (some ⟨g', 0, none⟩) nn c4).ownBlock) => show Below w.heap.size w w2 from (hbz0.trans (hba.mono hbz0.size)).grown hg (by simp; omega) (fun q hq => ((hoz0.below hba).lt (g := q) hq).1))
            clear hbz0 hoz0 hba
            refine wp_region_noPanic ?_
            go_region_held3 (fun w' => w'.cell? ⟨g, o + k * 4 + 2, none⟩ = some (.int .i64 ga) ∧ w'.cell? ⟨g, o + k * 4 + 3, none⟩ = some (.int .i64 gb)) (go_keep)
              (first | (refine step_append_lies _ (by rfl) (.tmp 53) (.tmp 69) 39 (by rfl) w.heap.size 84 i0 _ 4 32 Tryz.underlying39 hi0 hz0 hz1 hz2 rfl (by omega) (.slice (some ⟨g', 0, none⟩) nn c4) (m ++ [(⟨qf, qt, qa, qb⟩ : Pt)]).length (pflat (m ++ [(⟨qf, qt, qa, qb⟩ : Pt)])) (by rfl) HOz.out ⟨wz.heap.size, 0, none⟩ 1 1 (pflat [⟨(k : Int), (k : Int) + 1, ga, gb⟩]) (by rfl) rfl HSr.out (pflat_one _) (by omega) (by unfold maxLen; omega) (by omega) (by simp; omega) (wz.heap.size + 1) (by simp) ?_; intro g2 cap2 w2 hown2 hgrow2 hat2 hlt2; (have hbz := HNx.out w2 hgrow2); (obtain ⟨m2, m3⟩ := HVc.out _ hbz); have HOw := Lib.hid hown2; have HBw := Lib.hid hbz; clear hown2 hgrow2 hat2 hbz))
            all_goals
              refine NoPanic.normal ?_
              go_wp2
              go_roundw
              case rel =>
                have h9 := HOw.out
                rw [← pflat_append] at h9
                refine ⟨k + 1, _, _, _, by omega, by go_num, rfl, HBw.out, ?_⟩
                rw [HF.out, jn_more _ _ _ (by show (k : Int) < (k : Int) + 1; omega) HQs.out]
                unfold OwnsP
                rw [List.length_append]
                first | exact h9 | (rw [show (m ++ [(⟨qf, qt, qa, qb⟩ : Pt)]).length = m.length + 1 by simp] at h9 ⊢; exact h9)
              case measure => simp only [intOf]; omega
        · have e1 : (qa == ga) = false := by simpa using g1
          have hqs : ¬ ((⟨qf, qt, qa, qb⟩ : Pt).a = ga ∧ (⟨qf, qt, qa, qb⟩ : Pt).b = gb) := fun h => g1 h.1
          have HQs := Lib.hid hqs
          clear hqs g1
          go_wp2_with fail
          go_quiet (fail)
          go_wp2_with fail
          have hbz0 := below_drewN HB.out nq
          have hoz0 : OwnsP 84 (wr.drewN nq) w.heap.size (.slice (some ⟨g', 0, none⟩) nn c4) (m ++ [(⟨qf, qt, qa, qb⟩ : Pt)]) := HO.out
          clear m0 m1 HB HO
          generalize wr.drewN nq = wz at hbz0 hoz0 ⊢
          obtain ⟨m0, m1⟩ := HVc.out _ hbz0
          have hszz := hbz0.size
          have hba : Below wz.heap.size wz (wz.alloc (.cells #[.int .i64 (k : Int), .int .i64 ((k : Int) + 1), .int .i64 ga, .int .i64 gb] 84)).drew := ((Below.refl _ _).alloc (Nat.le_refl _) _).drew
          have HOz := Lib.hid (hoz0.below hba)
          have HSr := Lib.hid (fun j u h => show ((wz.alloc (.cells #[.int .i64 (k : Int), .int .i64 ((k : Int) + 1), .int .i64 ga, .int .i64 gb] 84)).drew).cell? _ = _ from srcs_part 84 wz wz.heap.size rfl ⟨k, (k : Int) + 1, ga, gb⟩ j u h)
          have HNx := Lib.hid (fun (w2 : World) (hg : (wz.alloc (.cells #[.int .i64 (k : Int), .int .i64 ((k : Int) + 1), .int .i64 ga, .int .i64 gb] 84)).drew.grownBy w2 (Value.slice (some ⟨g', 0, none⟩) nn c4).ownBlock) => show Below w.heap.size w w2 from (hbz0.trans (hba.mono hbz0.size)).grown hg (by simp; omega) (fun q hq => ((hoz0.below hba).lt (g := q) hq).1))
          clear hbz0 hoz0 hba
          refine wp_region_noPanic ?_
          go_region_held3 (fun w' => w'.cell? ⟨g, o + k * 4 + 2, none⟩ = some (.int .i64 ga) ∧ w'.cell? ⟨g, o + k * 4 + 3, none⟩ = some (.int .i64 gb)) (go_keep)
            (first | (refine step_append_lies _ (by rfl) (.tmp 53) (.tmp 69) 39 (by rfl) w.heap.size 84 i0 _ 4 32 Tryz.underlying39 hi0 hz0 hz1 hz2 rfl (by omega) (.slice (some ⟨g', 0, none⟩) nn c4) (m ++ [(⟨qf, qt, qa, qb⟩ : Pt)]).length (pflat (m ++ [(⟨qf, qt, qa, qb⟩ : Pt)])) (by rfl) HOz.out ⟨wz.heap.size, 0, none⟩ 1 1 (pflat [⟨(k : Int), (k : Int) + 1, ga, gb⟩]) (by rfl) rfl HSr.out (pflat_one _) (by omega) (by unfold maxLen; omega) (by omega) (by simp; omega) (wz.heap.size + 1) (by simp) ?_; intro g2 cap2 w2 hown2 hgrow2 hat2 hlt2; (have hbz := HNx.out w2 hgrow2); (obtain ⟨m2, m3⟩ := HVc.out _ hbz); have HOw := Lib.hid hown2; have HBw := Lib.hid hbz; clear hown2 hgrow2 hat2 hbz))
          all_goals
            refine NoPanic.normal ?_
            go_wp2
            go_roundw
            case rel =>
              have h9 := HOw.out
              rw [← pflat_append] at h9
              refine ⟨k + 1, _, _, _, by omega, by go_num, rfl, HBw.out, ?_⟩
              rw [HF.out, jn_more _ _ _ (by show (k : Int) < (k : Int) + 1; omega) HQs.out]
              unfold OwnsP
              rw [List.length_append]
              first | exact h9 | (rw [show (m ++ [(⟨qf, qt, qa, qb⟩ : Pt)]).length = m.length + 1 by simp] at h9 ⊢; exact h9)
            case measure => simp only [intOf]; omega
    · have hlI : ¬ (k : Int) < 256 := by omega
      obtain rfl : k = 256 := by omega
      have HB := Lib.hid hb
      have HO := Lib.hid ho
      clear hb ho
      go_wp2
      go_ret
      exact ⟨_, rfl, HO.out, HB.out⟩
theorem other_any {w : World} {v : Value} {l : List Int} (h : InI w v l) (a b : Int) (hl : l.length ≤ 100000) :
    Calls Tryz.prog 60 #[v, .int .i64 a, .int .i64 b] w fun e w' => e = .returned (.int .i64 (othS l a b)) ∧ w' = w := by
  obtain ⟨A, c, rfl, hc⟩ := h
  have HC := Lib.hid hc
  clear hc
  go_enter Tryz.func60, Tryz.ntmps60
  go_wp2
  go_loopw [7] (fun iv wr => ∃ k : Nat, k ≤ l.length ∧ iv = .int .i64 k ∧ wr = w ∧ othS l a b = othS (l.drop k) a b) (fun iv _ => l.length - (intOf iv).toNat)
  case atStart => exact ⟨0, Nat.zero_le _, rfl, rfl, rfl⟩
  case round =>
    obtain ⟨k, hk, rfl, rfl, hs⟩ := hrel
    have HS := Lib.hid hs
    clear hs
    by_cases hlt : k < l.length
    · obtain ⟨y, hy⟩ : ∃ y, l[k]? = some y := ⟨_, List.getElem?_eq_getElem hlt⟩
      obtain ⟨g, o, rfl, hg, hcl⟩ := HC.out k y hy
      have HY := Lib.hid (show l.drop k = y :: l.drop (k + 1) by
        obtain ⟨h1, h2⟩ := List.getElem?_eq_some_iff.1 hy
        rw [List.drop_eq_getElem_cons h1, h2])
      have hkI : (0 : Int) ≤ (k : Int) := by omega
      have hlI : (k : Int) < (l.length : Int) := by omega
      clear hy
      by_cases h1 : y = a
      · have d1 : (y != a) = false := by simpa using h1
        have H1 := Lib.hid h1
        clear h1
        go_wp2
        go_roundw
        case rel => exact ⟨k + 1, by omega, by go_num, by trivial, by rw [HS.out, HY.out]; unfold othS; rw [List.filter_cons_of_neg (by simp [H1.out])]⟩
        case measure => simp only [intOf]; omega
      · have d1 : (y != a) = true := by simpa using h1
        have H1 := Lib.hid h1
        clear h1
        by_cases h2 : y = b
        · have d2 : (y != b) = false := by simpa using h2
          have H2 := Lib.hid h2
          clear h2
          go_wp2
          go_roundw
          case rel => exact ⟨k + 1, by omega, by go_num, by trivial, by rw [HS.out, HY.out]; unfold othS; rw [List.filter_cons_of_neg (by simp [H2.out])]⟩
          case measure => simp only [intOf]; omega
        · have d2 : (y != b) = true := by simpa using h2
          have H2 := Lib.hid h2
          clear h2
          go_wp2
          go_ret
          refine ⟨?_, rfl⟩
          rw [HS.out, HY.out]
          unfold othS
          rw [List.filter_cons_of_pos (by simp [H1.out, H2.out])]
          rfl
    · have hlI : ¬ (k : Int) < (l.length : Int) := by omega
      go_wp2
      go_ret
      refine ⟨?_, rfl⟩
      rw [HS.out, List.drop_of_length_le (by omega)]
      rfl
end Go.Proofs.YthjinpbclfankaaGreatDoor
