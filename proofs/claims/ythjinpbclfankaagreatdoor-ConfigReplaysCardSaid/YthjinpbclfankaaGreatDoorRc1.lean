/-
  Has, Check, Where, Table, Same (the document's own), by contracts.
-/
import Derived.Test.YthjinpbclfankaaGreatDoorPc2
namespace Go.Proofs.YthjinpbclfankaaGreatDoor
open Go.RowKit

set_option maxRecDepth 100000 in
theorem has_any {w : World} {v : Value} {l : List Int} (h : InI w v l) (x : Int) (hl : l.length ≤ 100000) :
    Calls Tryz.prog 58 #[v, .int .i64 x] w fun e w' => e = .returned (.bool (decide (x ∈ l))) ∧ w' = w := by
  obtain ⟨A, c, rfl, hc⟩ := h
  have HC := Lib.hid hc
  clear hc
  go_enter Tryz.func58, Tryz.ntmps58
  go_wp2
  go_loopw [5] (fun iv wr => ∃ k : Nat, k ≤ l.length ∧ iv = .int .i64 k ∧ wr = w ∧ x ∉ l.take k) (fun iv _ => l.length - (intOf iv).toNat)
  case atStart => exact ⟨0, Nat.zero_le _, rfl, rfl, by simp⟩
  case round =>
    obtain ⟨k, hk, rfl, rfl, hn⟩ := hrel
    have HN := Lib.hid hn
    clear hn
    by_cases hlt : k < l.length
    · obtain ⟨y, hy⟩ : ∃ y, l[k]? = some y := ⟨_, List.getElem?_eq_getElem hlt⟩
      obtain ⟨g, o, rfl, hg, hcl⟩ := HC.out k y hy
      have HY := Lib.hid hy
      have hkI : (0 : Int) ≤ (k : Int) := by omega
      have hlI : (k : Int) < (l.length : Int) := by omega
      clear hy
      by_cases hxy : y = x
      · have hd : decide (x ∈ l) = true := decide_eq_true (by rw [← hxy]; exact List.mem_of_getElem? HY.out)
        have HD := Lib.hid hd
        clear hd
        go_wp2
        go_ret
        exact ⟨by rw [HD.out]; rfl, rfl⟩
      · go_wp2
        go_roundw
        case rel => exact ⟨k + 1, by omega, by go_num, by trivial, fun hm => by rcases (mem_take_succ HY.out).1 hm with h | h; (exact HN.out h); exact hxy h.symm⟩
        case measure => simp only [intOf]; omega
    · have hlI : ¬ (k : Int) < (l.length : Int) := by omega
      have hd : decide (x ∈ l) = false := decide_eq_false (by have := HN.out; rwa [List.take_of_length_le (by omega)] at this)
      have HD := Lib.hid hd
      clear hd
      go_wp2
      go_ret
      exact ⟨by rw [HD.out]; rfl, rfl⟩

theorem srv_step' {last x : Int} {l : List Int} {k : Nat} (hx : l[k]? = some x) (h : 0 ≤ x ∧ x < 8 ∧ last < x) : srvOk last (l.drop k) = srvOk x (l.drop (k + 1)) := by
  rw [srv_step hx, decide_eq_true h, Bool.true_and]
theorem srv_stop {last x : Int} {l : List Int} {k : Nat} (hx : l[k]? = some x) (h : ¬ (0 ≤ x ∧ x < 8 ∧ last < x)) : srvOk last (l.drop k) = false := by
  rw [srv_step hx, decide_eq_false h, Bool.false_and]
theorem pts_step' {srv : List Int} {at_ : Int} {l : List Pt} {k : Nat} {p : Pt} (hx : l[k]? = some p) (h : ptOk srv at_ p) : ptsOk srv at_ 256 (l.drop k) = ptsOk srv p.t 256 (l.drop (k + 1)) := by
  rw [pts_step hx, decide_eq_true h, Bool.true_and]
theorem pts_stop {srv : List Int} {at_ : Int} {l : List Pt} {k : Nat} {p : Pt} (hx : l[k]? = some p) (h : ¬ ptOk srv at_ p) : ptsOk srv at_ 256 (l.drop k) = false := by
  rw [pts_step hx, decide_eq_false h, Bool.false_and]
set_option maxRecDepth 100000 in
set_option maxHeartbeats 4000000 in
theorem rcheck_any {w : World} {v : Value} {c : Cf} (h : IC w v c) (hl : c.srv.length ≤ 100000) (hp : c.pts.length ≤ 100000) :
    Calls Tryz.prog 45 #[v] w fun e w' => e = .returned (.int .i64 (chk c)) ∧ Below w.heap.size w w' := by
  obtain ⟨sv, pv, rfl, HC⟩ := h.look
  clear h
  obtain ⟨e, srv, ps, t⟩ := c
  replace hl : srv.length ≤ 100000 := hl
  replace hp : ps.length ≤ 100000 := hp
  obtain ⟨A1, c1, rfl, hc1⟩ := (HC.out _ (Below.refl _ _)).1
  obtain ⟨A2, c2, rfl, hc2⟩ := (HC.out _ (Below.refl _ _)).2
  have H1 := Lib.hid hc1
  have H2 := Lib.hid hc2
  have HI := Lib.hid (fun (W : World) (hb : Below w.heap.size w W) (x : Int) => has_any (HC.out W hb).1 x hl)
  clear hc1 hc2
  show Calls _ _ #[.agg #[.int .i64 e, .slice A1 srv.length c1, .slice A2 ps.length c2, .int .i64 t]] w _
  obtain ⟨wb, hwb⟩ : ∃ wb, w.alloc (.cells #[.int .i64 e, .slice A1 srv.length c1, .slice A2 ps.length c2, .int .i64 t] 41) = wb := ⟨_, rfl⟩
  have HWB := Lib.hid hwb
  have hb1 : Below w.heap.size w wb := by rw [← hwb]; exact (Below.refl _ _).alloc (Nat.le_refl _) _
  have HB := Lib.hid hb1
  have hsz : wb.heap.size = w.heap.size + 1 := by rw [← hwb, World.size_alloc]
  have HW := Lib.hid (fun (W : World) (hb : Below wb.heap.size wb W) => show Below w.heap.size w W ∧ W.cell? ⟨w.heap.size, 0, none⟩ = some (.int .i64 e) ∧ W.cell? ⟨w.heap.size, 1, none⟩ = some (.slice A1 srv.length c1) ∧ W.cell? ⟨w.heap.size, 2, none⟩ = some (.slice A2 ps.length c2) ∧ W.cell? ⟨w.heap.size, 3, none⟩ = some (.int .i64 t) from ⟨hb1.trans (hb.mono hb1.size), cells4_below rfl (by rw [hsz] at hb; rw [hwb]; exact hb)⟩)
  clear hb1 HC hsz hwb
  have hhead : ∀ q : Prop, (¬ q → ¬ Cf.ok ⟨e, srv, ps, t⟩) → ¬ q → chk ⟨e, srv, ps, t⟩ = 1 := fun q h1 h2 => chk_no (h1 h2)
  have HH := Lib.hid hhead
  clear hhead
  by_cases h1 : 1 ≤ e
  case neg =>
    rw [HH.out _ (fun h k => h k.1.1) h1]
    go_enter Tryz.func45, Tryz.ntmps45
    go_wp2_with fail
    rw [HWB.out]
    go_ret
    exact ⟨rfl, HB.out⟩
  case pos =>
  by_cases h2 : e ≤ 1099511627776
  case neg =>
    rw [HH.out _ (fun h k => h k.1.2.1) h2]
    go_enter Tryz.func45, Tryz.ntmps45
    go_wp2_with fail
    rw [HWB.out]
    go_ret
    exact ⟨rfl, HB.out⟩
  case pos =>
  by_cases h3 : 1 ≤ t
  case neg =>
    rw [HH.out _ (fun h k => h k.1.2.2.1) h3]
    go_enter Tryz.func45, Tryz.ntmps45
    go_wp2_with fail
    rw [HWB.out]
    go_ret
    exact ⟨rfl, HB.out⟩
  case pos =>
  by_cases h4 : t ≤ 8
  case neg =>
    rw [HH.out _ (fun h k => h k.1.2.2.2) h4]
    go_enter Tryz.func45, Tryz.ntmps45
    go_wp2_with fail
    rw [HWB.out]
    go_ret
    exact ⟨rfl, HB.out⟩
  case pos =>
  by_cases h5 : 2 ≤ srv.length
  case neg =>
    rw [HH.out _ (fun h k => h k.2.1) h5]
    have h5I : (srv.length : Int) < 2 := by omega
    go_enter Tryz.func45, Tryz.ntmps45
    go_wp2_with fail
    rw [HWB.out]
    go_ret
    exact ⟨rfl, HB.out⟩
  case pos =>
  have h5I : ¬ (srv.length : Int) < 2 := by omega
  by_cases h6 : 1 ≤ ps.length
  case neg =>
    have h6' : ¬ Cf.ok ⟨e, srv, ps, t⟩ := fun k => by
      have hps : ps = [] := List.length_eq_zero_iff.1 (by omega)
      have := k.2.2.2
      subst hps
      simp [ptsOk] at this
    rw [chk_no h6']
    have h6I : (ps.length : Int) < 1 := by omega
    go_enter Tryz.func45, Tryz.ntmps45
    go_wp2_with fail
    rw [HWB.out]
    go_ret
    exact ⟨rfl, HB.out⟩
  case pos =>
  have h6I : ¬ (ps.length : Int) < 1 := by omega
  have HNo := Lib.hid (show srvOk (-1) srv = false → chk ⟨e, srv, ps, t⟩ = 1 from fun h => chk_no fun k => by have := k.2.2.1; rw [show srvOk (-1) srv = false from h] at this; cases this)
  have HNp := Lib.hid (show ptsOk srv 0 256 ps = false → chk ⟨e, srv, ps, t⟩ = 1 from fun h => chk_no fun k => by have := k.2.2.2; rw [show ptsOk srv 0 256 ps = false from h] at this; cases this)
  have HYes := Lib.hid (show srvOk (-1) srv = true → ptsOk srv 0 256 ps = true → chk ⟨e, srv, ps, t⟩ = 0 from fun g1 g2 => chk_ok ⟨⟨h1, h2, h3, h4⟩, h5, g1, g2⟩)
  generalize chk ⟨e, srv, ps, t⟩ = q at HNo HNp HYes ⊢
  clear HH
  go_enter Tryz.func45, Tryz.ntmps45
  go_wp2_with fail
  rw [HWB.out]
  clear h1 h2 h3 h4 h5 h5I h6 h6I
  go_loopw [3] (fun iv wr => ∃ (k : Nat) (last : Int), k ≤ srv.length ∧ iv = .int .i64 k ∧ Below wb.heap.size wb wr ∧ srvOk (-1) srv = srvOk last (srv.drop k) ∧ (k = 0 ∧ last = -1 ∨ 0 < k ∧ srv[k - 1]? = some last)) (fun iv _ => srv.length - (intOf iv).toNat)
  case atStart => exact ⟨0, -1, Nat.zero_le _, rfl, Below.refl _ _, rfl, .inl ⟨rfl, rfl⟩⟩
  case round =>
    obtain ⟨k, last, hk, rfl, hb, hs, hla⟩ := hrel
    obtain ⟨hbw, k0, k1, k2, k3⟩ := HW.out _ hb
    have HS := Lib.hid hs
    have HBr := Lib.hid hb
    have HBw := Lib.hid hbw
    clear hs hb hbw k0 k3
    by_cases hlt : k < srv.length
    · clear k2
      obtain ⟨x, hx⟩ : ∃ y, srv[k]? = some y := ⟨_, List.getElem?_eq_getElem hlt⟩
      obtain ⟨g, o, rfl, hg, hcl⟩ := H1.out k x hx
      have hcx := (HBw.out.cell (p := ⟨g, o + k, none⟩) hg).trans hcl
      have HX := Lib.hid hx
      have hkI : (0 : Int) ≤ (k : Int) := by omega
      have hlI : (k : Int) < (srv.length : Int) := by omega
      clear hx hcl
      by_cases g1 : x < 0
      · have d1 : decide (x < 0) = true := decide_eq_true g1
        have hq := HNo.out (by rw [HS.out, srv_stop HX.out (fun h => by omega)])
        have HQ := Lib.hid hq
        clear hq
        clear hla
        go_wp2_with fail
        go_quiet (fail)
        go_wp2
        go_ret
        exact ⟨by rw [HQ.out]; rfl, below_drewN HBw.out _⟩
      · have d1 : decide (x < 0) = false := decide_eq_false g1
        by_cases g2 : 8 ≤ x
        · have d2 : decide (8 ≤ x) = true := decide_eq_true g2
          have hq := HNo.out (by rw [HS.out, srv_stop HX.out (fun h => by omega)])
          have HQ := Lib.hid hq
          clear hq
          clear hla
          go_wp2_with fail
          go_quiet (fail)
          go_wp2
          go_ret
          exact ⟨by rw [HQ.out]; rfl, below_drewN HBw.out _⟩
        · have d2 : decide (8 ≤ x) = false := decide_eq_false g2
          rcases hla with ⟨rfl, rfl⟩ | ⟨h0, hla⟩
          · have hk1 : ¬ (0 : Int) < 0 := by omega
            have hcx0 : wr.cell? ⟨g, o, none⟩ = some (.int .i64 x) := hcx
            go_wp2_with fail
            go_quiet (fail)
            go_wp2
            go_roundw
            case rel => exact ⟨1, x, by omega, by go_num, below_drewN HBr.out _, by rw [HS.out, srv_step' HX.out (by omega)], .inr ⟨by omega, HX.out⟩⟩
            case measure => simp only [intOf]; omega
          · obtain ⟨j, hj⟩ : ∃ j, k - 1 = j := ⟨_, rfl⟩
            rw [hj] at hla
            obtain ⟨g', o', e', hg', hcl'⟩ := H1.out j last hla
            simp only [Option.some.injEq, Addr.mk.injEq, and_true] at e'
            obtain ⟨rfl, rfl⟩ := e'
            have hcl2 := (HBw.out.cell (p := ⟨g, o + j, none⟩) hg').trans hcl'
            clear hcl' hg' hla
            have hk1 : (0 : Int) < (k : Int) := by omega
            have hk2 : IntKind.i64.wrap ((k : Int) - 1) = (j : Int) := (IntWalk.i64_in _ (by omega)).trans (by omega)
            have hk3 : (j : Int) < (srv.length : Int) := by omega
            have hk4 : (0 : Int) ≤ (j : Int) := by omega
            clear hj
            by_cases g3 : x ≤ last
            · have d3 : decide (x ≤ last) = true := decide_eq_true g3
              have hq := HNo.out (by rw [HS.out, srv_stop HX.out (fun h => by omega)])
              have HQ := Lib.hid hq
              clear hq
              go_wp2_with fail
              go_quiet (fail)
              go_wp2
              go_ret
              exact ⟨by rw [HQ.out]; rfl, below_drewN HBw.out _⟩
            · have d3 : decide (x ≤ last) = false := decide_eq_false g3
              go_wp2_with fail
              go_quiet (fail)
              go_wp2
              go_roundw
              case rel => exact ⟨k + 1, x, by omega, by go_num, below_drewN HBr.out _, by rw [HS.out, srv_step' HX.out (by omega)], .inr ⟨by omega, HX.out⟩⟩
              case measure => simp only [intOf]; omega
    · have hlI : ¬ (k : Int) < (srv.length : Int) := by omega
      have hs : srvOk (-1) srv = true := by rw [HS.out, List.drop_of_length_le (by omega)]; rfl
      have HYe := Lib.hid (HYes.out hs)
      clear hs HYes HNo hla k2 HS
      go_wp2_with fail
      go_loopw [4, 5] (fun av iv wr => ∃ (k : Nat) (at_ : Int), k ≤ ps.length ∧ iv = .int .i64 k ∧ av = .int .i64 at_ ∧ Below wb.heap.size wb wr ∧ ptsOk srv 0 256 ps = ptsOk srv at_ 256 (ps.drop k)) (fun _ iv _ => ps.length - (intOf iv).toNat)
      case atStart => exact ⟨0, 0, Nat.zero_le _, rfl, rfl, HBr.out, rfl⟩
      case round =>
        obtain ⟨j, at_, hj, rfl, rfl, hb, hs⟩ := hrel
        obtain ⟨hbw, k0, k1, k2, k3⟩ := HW.out _ hb
        have HS := Lib.hid hs
        have HBj := Lib.hid hb
        have HBv := Lib.hid hbw
        clear hs hb hbw k0 k3 HBw HBr
        by_cases hlt : j < ps.length
        · obtain ⟨p, hx⟩ : ∃ y, ps[j]? = some y := ⟨_, List.getElem?_eq_getElem hlt⟩
          obtain ⟨g, o, rfl, hg, hcl⟩ := H2.out j p hx
          obtain ⟨c0, c1', c2', c3⟩ := hcl.below HBv.out hg
          have HX := Lib.hid hx
          have hkI : (0 : Int) ≤ (j : Int) := by omega
          have hlJ : (j : Int) < (ps.length : Int) := by omega
          clear hx hcl
          obtain ⟨f, t2, a, b⟩ := p
          have hb1 : Below wr.heap.size wr (wr.alloc (.cells #[.int .i64 f, .int .i64 t2, .int .i64 a, .int .i64 b] 84)) := (Below.refl _ _).alloc (Nat.le_refl _) _
          have hbn := HBj.out.trans (hb1.mono HBj.out.size)
          obtain ⟨-, -, k1', -⟩ := HW.out _ hbn
          have HBn := Lib.hid hbn
          have HB1 := Lib.hid (HBv.out.trans (hb1.mono HBv.out.size))
          have HA := Lib.hid (HI.out _ HB1.out a)
          have HBb := Lib.hid (HI.out _ HB1.out b)
          clear hb1 hbn k1
          by_cases g1 : f = at_
          · subst g1
            by_cases g2 : t2 ≤ f
            · have d2 : decide (t2 ≤ f) = true := decide_eq_true g2
              have hq := HNp.out (by rw [HS.out, pts_stop HX.out (fun h => by have : f < t2 := h.2.1; omega)])
              have HQ := Lib.hid hq
              clear hq
              go_wp2_with fail
              go_ret
              exact ⟨by rw [HQ.out]; rfl, HB1.out⟩
            · have d2 : decide (t2 ≤ f) = false := decide_eq_false g2
              by_cases g3 : a ∈ srv
              · have d3 : decide (a ∈ srv) = true := decide_eq_true g3
                by_cases g4 : b ∈ srv
                · have d4 : decide (b ∈ srv) = true := decide_eq_true g4
                  by_cases g5 : a = b
                  · subst g5
                    have hq := HNp.out (by rw [HS.out, pts_stop HX.out (fun h => h.2.2.2.2 rfl)])
                    have HQ := Lib.hid hq
                    clear hq
                    go_wp2_with (first
                      | (go_at_call 58; (with_reducible refine HA.out.mono ?_); rintro e w' ⟨rfl, rfl⟩; rw [d3])
                      | (go_at_call 58; (with_reducible refine HBb.out.mono ?_); rintro e w' ⟨rfl, rfl⟩; rw [d4])
                      | fail)
                    go_ret
                    exact ⟨by rw [HQ.out]; rfl, HB1.out⟩
                  · have d5 : (a == b) = false := by simpa using g5
                    go_wp2_with (first
                      | (go_at_call 58; (with_reducible refine HA.out.mono ?_); rintro e w' ⟨rfl, rfl⟩; rw [d3])
                      | (go_at_call 58; (with_reducible refine HBb.out.mono ?_); rintro e w' ⟨rfl, rfl⟩; rw [d4])
                      | fail)
                    go_roundw
                    case rel => exact ⟨j + 1, t2, by omega, by go_num, rfl, HBn.out, by rw [HS.out, pts_step' HX.out (show ptOk srv f ⟨f, t2, a, b⟩ from ⟨rfl, by show f < t2; omega, g3, g4, g5⟩)]⟩
                    case measure => simp only [intOf]; omega
                · have d4 : decide (b ∈ srv) = false := decide_eq_false g4
                  have hq := HNp.out (by rw [HS.out, pts_stop HX.out (fun h => g4 h.2.2.2.1)])
                  have HQ := Lib.hid hq
                  clear hq
                  go_wp2_with (first
                    | (go_at_call 58; (with_reducible refine HA.out.mono ?_); rintro e w' ⟨rfl, rfl⟩; rw [d3])
                    | (go_at_call 58; (with_reducible refine HBb.out.mono ?_); rintro e w' ⟨rfl, rfl⟩; rw [d4])
                    | fail)
                  go_ret
                  exact ⟨by rw [HQ.out]; rfl, HB1.out⟩
              · have d3 : decide (a ∈ srv) = false := decide_eq_false g3
                have hq := HNp.out (by rw [HS.out, pts_stop HX.out (fun h => g3 h.2.2.1)])
                have HQ := Lib.hid hq
                clear hq
                go_wp2_with (first
                  | (go_at_call 58; (with_reducible refine HA.out.mono ?_); rintro e w' ⟨rfl, rfl⟩; rw [d3])
                  | (go_at_call 58; (with_reducible refine HBb.out.mono ?_); rintro e w' ⟨rfl, rfl⟩; rw [d3])
                  | fail)
                go_ret
                exact ⟨by rw [HQ.out]; rfl, HB1.out⟩
          · have d1 : (f != at_) = true := by simpa using g1
            have hq := HNp.out (by rw [HS.out, pts_stop HX.out (fun h => g1 h.1)])
            have HQ := Lib.hid hq
            clear hq
            go_wp2_with fail
            go_ret
            exact ⟨by rw [HQ.out]; rfl, HB1.out⟩
        · have hlJ : ¬ (j : Int) < (ps.length : Int) := by omega
          have hs : ptsOk srv 0 256 ps = decide (at_ = 256) := by rw [HS.out, List.drop_of_length_le (by omega)]; rfl
          by_cases g1 : at_ = 256
          · have hq := HYe.out (by rw [hs, decide_eq_true g1])
            have HQ := Lib.hid hq
            clear hq
            clear hs
            subst g1
            go_wp2_with fail
            go_ret
            exact ⟨by rw [HQ.out]; rfl, HBv.out⟩
          · have hq := HNp.out (by rw [hs, decide_eq_false g1])
            have HQ := Lib.hid hq
            clear hq
            clear hs
            go_wp2_with fail
            go_ret
            exact ⟨by rw [HQ.out]; rfl, HBv.out⟩
end Go.Proofs.YthjinpbclfankaaGreatDoor
