/-
  Where, Table, Same (the document's own), theirs (the law's), by contracts.
-/
import Derived.Test.YthjinpbclfankaaGreatDoorRc2
import Derived.Deep.RegionLaw
namespace Go.Proofs.YthjinpbclfankaaGreatDoor
open Go.RowKit

set_option maxRecDepth 100000 in
set_option maxHeartbeats 2000000 in
/-- Two values that are one config are the same. -/
theorem same12_any {w : World} {v1 v2 : Value} {c : Cf} (h1 : IC w v1 c) (h2 : IC w v2 c) (hl : c.srv.length ≤ 100000) (hp : c.pts.length ≤ 100000) :
    Calls Tryz.prog 9 #[v1, v2] w fun e w' => e = .returned (.bool true) ∧ Below w.heap.size w w' := by
  obtain ⟨sv, pv, rfl, HC⟩ := h1.look
  obtain ⟨sv', pv', rfl, HC'⟩ := h2.look
  clear h1 h2
  obtain ⟨e, srv, ps, t⟩ := c
  obtain ⟨A1, c1, hA1, hc1⟩ := (show InI w sv srv from (HC.out _ (Below.refl _ _)).1)
  obtain ⟨A2, c2, hA2, hc2⟩ := (show InP w pv ps from (HC.out _ (Below.refl _ _)).2)
  obtain ⟨A3, c3, hA3, hc3⟩ := (show InI w sv' srv from (HC'.out _ (Below.refl _ _)).1)
  obtain ⟨A4, c4, hA4, hc4⟩ := (show InP w pv' ps from (HC'.out _ (Below.refl _ _)).2)
  subst hA1 hA2 hA3 hA4
  have H1 := Lib.hid hc1
  have H2 := Lib.hid hc2
  have H3 := Lib.hid hc3
  have H4 := Lib.hid hc4
  replace hl : srv.length ≤ 100000 := hl
  replace hp : ps.length ≤ 100000 := hp
  clear hc1 hc2 hc3 hc4 HC HC'
  show Calls _ _ #[.agg #[.int .i64 e, .slice A1 srv.length c1, .slice A2 ps.length c2, .int .i64 t], .agg #[.int .i64 e, .slice A3 srv.length c3, .slice A4 ps.length c4, .int .i64 t]] w _
  have hb1 : Below w.heap.size w (w.alloc (.cells #[.int .i64 e, .slice A1 srv.length c1, .slice A2 ps.length c2, .int .i64 t] 41)) := (Below.refl _ _).alloc (Nat.le_refl _) _
  have hb2 := hb1.alloc hb1.size (.cells #[.int .i64 e, .slice A3 srv.length c3, .slice A4 ps.length c4, .int .i64 t] 41)
  have HB2 := Lib.hid hb2
  have HW := Lib.hid (fun (W : World) (hb : Below (w.heap.size + 1 + 1) ((w.alloc (.cells #[.int .i64 e, .slice A1 srv.length c1, .slice A2 ps.length c2, .int .i64 t] 41)).alloc (.cells #[.int .i64 e, .slice A3 srv.length c3, .slice A4 ps.length c4, .int .i64 t] 41)) W) => show (W.cell? ⟨w.heap.size, 1, none⟩ = some (.slice A1 srv.length c1) ∧ W.cell? ⟨w.heap.size, 2, none⟩ = some (.slice A2 ps.length c2)) ∧ W.cell? ⟨w.heap.size + 1, 1, none⟩ = some (.slice A3 srv.length c3) ∧ W.cell? ⟨w.heap.size + 1, 2, none⟩ = some (.slice A4 ps.length c4) from by
    have k1 := heap_alloc_new w (.cells #[.int .i64 e, .slice A1 srv.length c1, .slice A2 ps.length c2, .int .i64 t] 41)
    have k2 := heap_alloc_new (w.alloc (.cells #[.int .i64 e, .slice A1 srv.length c1, .slice A2 ps.length c2, .int .i64 t] 41)) (.cells #[.int .i64 e, .slice A3 srv.length c3, .slice A4 ps.length c4, .int .i64 t] 41)
    rw [World.size_alloc] at k2
    have k1' := (heap_alloc_old _ (.cells #[.int .i64 e, .slice A3 srv.length c3, .slice A4 ps.length c4, .int .i64 t] 41) (show w.heap.size < (w.alloc (.cells #[.int .i64 e, .slice A1 srv.length c1, .slice A2 ps.length c2, .int .i64 t] 41)).heap.size by simp)).trans k1
    have m1 := (hb.block w.heap.size (by omega)).trans k1'
    have m2 := (hb.block (w.heap.size + 1) (by omega)).trans k2
    exact ⟨⟨cell_of_row _ _ 1 _ _ _ m1, cell_of_row _ _ 2 _ _ _ m1⟩, cell_of_row _ _ 1 _ _ _ m2, cell_of_row _ _ 2 _ _ _ m2⟩)
  clear hb1 hb2
  go_enter Tryz.func9, Tryz.ntmps9
  go_wp2_with fail
  generalize hw1 : (w.alloc (.cells #[.int .i64 e, .slice A1 srv.length c1, .slice A2 ps.length c2, .int .i64 t] 41)).alloc (.cells #[.int .i64 e, .slice A3 srv.length c3, .slice A4 ps.length c4, .int .i64 t] 41) = w1 at HB2 HW ⊢
  have hs1 : w1.heap.size = w.heap.size + 1 + 1 := by rw [← hw1, World.size_alloc, World.size_alloc]
  have HS1 := Lib.hid hs1
  clear hw1 hs1
  go_loopw [5] (fun iv wr => ∃ k : Nat, k ≤ srv.length ∧ iv = .int .i64 k ∧ Below (w.heap.size + 1 + 1) w1 wr) (fun iv _ => srv.length - (intOf iv).toNat)
  case atStart => exact ⟨0, Nat.zero_le _, rfl, Below.refl _ _⟩
  case round =>
    obtain ⟨k, hk, rfl, hb⟩ := hrel
    obtain ⟨⟨r1, r2⟩, r3, r4⟩ := HW.out _ hb
    have HBr := Lib.hid hb
    have HBw := Lib.hid (HB2.out.trans (hb.mono (by have := HS1.out; omega)))
    clear hb
    by_cases hlt : k < srv.length
    · obtain ⟨x, hx⟩ : ∃ y, srv[k]? = some y := ⟨_, List.getElem?_eq_getElem hlt⟩
      obtain ⟨g, o, rfl, hg, hcl⟩ := H1.out k x hx
      obtain ⟨g', o', rfl, hg', hcl'⟩ := H3.out k x hx
      have m1 := (HBw.out.cell (p := ⟨g, o + k, none⟩) hg).trans hcl
      have m2 := (HBw.out.cell (p := ⟨g', o' + k, none⟩) hg').trans hcl'
      have hkI : (0 : Int) ≤ (k : Int) := by omega
      have hlI : (k : Int) < (srv.length : Int) := by omega
      clear hx hcl hcl' r2 r4
      go_wp2_with fail
      go_quiet (fail)
      go_wp2
      go_roundw
      case rel => exact ⟨k + 1, by omega, by go_num, below_drewN HBr.out _⟩
      case measure => simp only [intOf]; omega
    · have hlI : ¬ (k : Int) < (srv.length : Int) := by omega
      clear r2 r3 r4
      go_wp2_with fail
      go_loopw [6] (fun iv wr => ∃ k : Nat, k ≤ ps.length ∧ iv = .int .i64 k ∧ Below (w.heap.size + 1 + 1) w1 wr) (fun iv _ => ps.length - (intOf iv).toNat)
      case atStart => exact ⟨0, Nat.zero_le _, rfl, HBr.out⟩
      case round =>
        obtain ⟨j, hj, rfl, hb⟩ := hrel
        obtain ⟨⟨r1, r2⟩, r3, r4⟩ := HW.out _ hb
        have HBj := Lib.hid hb
        have HBv := Lib.hid (HB2.out.trans (hb.mono (by have := HS1.out; omega)))
        clear hb HBr HBw
        by_cases hlt : j < ps.length
        · obtain ⟨x, hx⟩ : ∃ y, ps[j]? = some y := ⟨_, List.getElem?_eq_getElem hlt⟩
          obtain ⟨g, o, rfl, hg, hcl⟩ := H2.out j x hx
          obtain ⟨g', o', rfl, hg', hcl'⟩ := H4.out j x hx
          obtain ⟨m0, m1, m2, m3⟩ := hcl.below HBv.out hg
          obtain ⟨n0, n1, n2, n3⟩ := hcl'.below HBv.out hg'
          have hkI : (0 : Int) ≤ (j : Int) := by omega
          have hlI : (j : Int) < (ps.length : Int) := by omega
          obtain ⟨xf, xt, xa, xb⟩ := x
          clear hx hcl hcl' r1 r3
          go_wp2_with fail
          go_quiet (fail)
          go_wp2
          go_roundw
          case rel => exact ⟨j + 1, by omega, by go_num, below_drewN HBj.out _⟩
          case measure => simp only [intOf]; omega
        · have hlI : ¬ (j : Int) < (ps.length : Int) := by omega
          go_wp2
          go_ret
          exact ⟨rfl, HBv.out⟩
end Go.Proofs.YthjinpbclfankaaGreatDoor
