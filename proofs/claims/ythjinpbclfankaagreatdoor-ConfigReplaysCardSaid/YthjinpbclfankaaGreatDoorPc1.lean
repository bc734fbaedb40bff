/-
  areTables, isNode, slices.Index, slices.Contains, areServers, areCopies, areParts, Check (package config), by contracts.
-/
import Derived.Test.YthjinpbclfankaaGreatDoorMem12
import Derived.BigQuiet
import Derived.Deep.QuietTactic
namespace Go.Proofs.YthjinpbclfankaaGreatDoor
open Go.RowKit

theorem areTables_any (x : Int) (w : World) : Calls Tryz.prog 30 #[.int .i64 x] w fun e w' => e = .returned (.bool (decide (1 ≤ x ∧ x ≤ 8))) ∧ w' = w := by
  by_cases h1 : 1 ≤ x <;> by_cases h2 : x ≤ 8 <;> (
    go_enter Tryz.func30, Tryz.ntmps30
    go_wp2
    go_ret
    exact ⟨by simp [h1, h2], rfl⟩)
theorem isNode_any (x : Int) (w : World) : Calls Tryz.prog 49 #[.int .i64 x] w fun e w' => e = .returned (.bool (decide (0 ≤ x ∧ x < 8))) ∧ w' = w := by
  by_cases h1 : 0 ≤ x <;> by_cases h2 : x < 8 <;> (
    go_enter Tryz.func49, Tryz.ntmps49
    go_wp2
    go_ret
    exact ⟨by simp [h1, h2], rfl⟩)

/-- Whether a number is among the first k. -/
theorem mem_take_succ {l : List Int} {k : Nat} {x y : Int} (hy : l[k]? = some y) : x ∈ l.take (k + 1) ↔ x ∈ l.take k ∨ x = y := by
  rw [List.take_add_one, hy]; simp
set_option maxRecDepth 100000 in
theorem index_any {w : World} {v : Value} {l : List Int} (h : InI w v l) (x : Int) (hl : l.length ≤ 100000) :
    Calls Tryz.prog 71 #[v, .int .i64 x] w fun e w' => ∃ r : Int, e = .returned (.int .i64 r) ∧ (0 ≤ r ↔ x ∈ l) ∧ w' = w := by
  obtain ⟨A, c, rfl, hc⟩ := h
  have HC := Lib.hid hc
  clear hc
  go_enter Tryz.func71, Tryz.ntmps71
  go_wp2
  go_loopw [8] (fun iv wr => ∃ k : Nat, k ≤ l.length ∧ iv = .int .i64 k ∧ wr = w ∧ x ∉ l.take k) (fun iv _ => l.length - (intOf iv).toNat)
  case atStart => exact ⟨0, Nat.zero_le _, rfl, rfl, by simp⟩
  case round =>
    obtain ⟨k, hk, rfl, rfl, hn⟩ := hrel
    have HN := Lib.hid hn
    clear hn
    by_cases hlt : k < l.length
    · obtain ⟨y, hy⟩ : ∃ y, l[k]? = some y := ⟨_, List.getElem?_eq_getElem hlt⟩
      obtain ⟨g, o, rfl, hg, hcl⟩ := HC.out k y hy
      have HY := Lib.hid hy
      have hkI : (0 : Int) ≤ (k : Int) := by omega
      have hlI : (k : Int) < (l.length : Int) := by omega
      clear hy
      by_cases hxy : x = y
      · go_wp2
        go_ret
        exact ⟨k, rfl, ⟨fun _ => by rw [hxy]; exact List.mem_of_getElem? HY.out, fun _ => hkI⟩, rfl⟩
      · go_wp2
        go_roundw
        case rel => exact ⟨k + 1, by omega, by go_num, by trivial, fun hm => by rcases (mem_take_succ HY.out).1 hm with h | h; (exact HN.out h); exact hxy h⟩
        case measure => simp only [intOf]; omega
    · have hlI : ¬ (k : Int) < (l.length : Int) := by omega
      go_wp2
      go_ret
      refine ⟨-1, rfl, ⟨fun h => by omega, fun hm => absurd ?_ HN.out⟩, rfl⟩
      rwa [List.take_of_length_le (by omega)]
theorem contains_any {w : World} {v : Value} {l : List Int} (h : InI w v l) (x : Int) (hl : l.length ≤ 100000) :
    Calls Tryz.prog 62 #[v, .int .i64 x] w fun e w' => e = .returned (.bool (decide (x ∈ l))) ∧ w' = w := by
  have HI := Lib.hid (index_any h x hl)
  clear h
  go_enter Tryz.func62, Tryz.ntmps62
  go_wp2_with fail
  go_at_call 71
  refine HI.out.mono ?_
  rintro e w' ⟨r, rfl, hr, rfl⟩
  have HR := Lib.hid hr
  clear hr HI
  go_wp2
  go_ret
  have hd : decide (0 ≤ r) = decide (x ∈ l) := decide_eq_decide.2 HR.out
  exact ⟨by rw [← hd]; rfl, rfl⟩

theorem srv_step {last x : Int} {l : List Int} {k : Nat} (hx : l[k]? = some x) : srvOk last (l.drop k) = (decide (0 ≤ x ∧ x < 8 ∧ last < x) && srvOk x (l.drop (k + 1))) := by
  have hlt := (List.getElem?_eq_some_iff.1 hx)
  obtain ⟨h1, h2⟩ := hlt
  rw [List.drop_eq_getElem_cons h1, h2]; rfl
set_option maxRecDepth 100000 in
theorem areServers_any {w : World} {v : Value} {l : List Int} (h : InI w v l) (hl : l.length ≤ 100000) :
    Calls Tryz.prog 31 #[v] w fun e w' => e = .returned (.bool (srvOk (-1) l && decide (2 ≤ l.length))) ∧ w' = w := by
  obtain ⟨A, c, rfl, hc⟩ := h
  have HC := Lib.hid hc
  clear hc
  go_enter Tryz.func31, Tryz.ntmps31
  go_wp2
  go_loopw [3, 8] (fun lv iv wr => ∃ (k : Nat) (last : Int), k ≤ l.length ∧ iv = .int .i64 k ∧ lv = .int .i64 last ∧ wr = w ∧ srvOk (-1) l = srvOk last (l.drop k)) (fun _ iv _ => l.length - (intOf iv).toNat)
  case atStart => exact ⟨0, -1, Nat.zero_le _, rfl, rfl, rfl, rfl⟩
  case round =>
    obtain ⟨k, last, hk, rfl, rfl, rfl, hs⟩ := hrel
    have HS := Lib.hid hs
    clear hs
    by_cases hlt : k < l.length
    · obtain ⟨x, hx⟩ : ∃ y, l[k]? = some y := ⟨_, List.getElem?_eq_getElem hlt⟩
      obtain ⟨g, o, rfl, hg, hcl⟩ := HC.out k x hx
      have HX := Lib.hid hx
      have HN := Lib.hid (isNode_any x)
      have hkI : (0 : Int) ≤ (k : Int) := by omega
      have hlI : (k : Int) < (l.length : Int) := by omega
      clear hx
      by_cases hn : 0 ≤ x ∧ x < 8
      · have hd : decide (0 ≤ x ∧ x < 8) = true := decide_eq_true hn
        by_cases hle : x ≤ last
        · go_wp2_with (go_at_call 49; (with_reducible refine (HN.out _).mono ?_); rintro e w' ⟨rfl, rfl⟩; rw [hd])
          go_ret
          refine ⟨?_, rfl⟩
          rw [HS.out, srv_step HX.out, decide_eq_false (fun h => by omega)]; rfl
        · go_wp2_with (go_at_call 49; (with_reducible refine (HN.out _).mono ?_); rintro e w' ⟨rfl, rfl⟩; rw [hd])
          go_roundw
          case rel =>
            refine ⟨k + 1, x, by omega, by go_num, rfl, by trivial, ?_⟩
            rw [HS.out, srv_step HX.out, decide_eq_true (⟨hn.1, hn.2, by omega⟩), Bool.true_and]
          case measure => simp only [intOf]; omega
      · have hd : decide (0 ≤ x ∧ x < 8) = false := decide_eq_false hn
        go_wp2_with (go_at_call 49; (with_reducible refine (HN.out _).mono ?_); rintro e w' ⟨rfl, rfl⟩; rw [hd])
        go_ret
        refine ⟨?_, rfl⟩
        rw [HS.out, srv_step HX.out, decide_eq_false (fun h => hn ⟨h.1, h.2.1⟩)]; rfl
    · have hlI : ¬ (k : Int) < (l.length : Int) := by omega
      have hs : srvOk (-1) l = true := by rw [HS.out, List.drop_of_length_le (by omega)]; rfl
      have hdl : decide ((2 : Int) ≤ (l.length : Int)) = decide (2 ≤ l.length) := by simp only [decide_eq_decide]; omega
      have HD := Lib.hid hdl
      have HS2 := Lib.hid hs
      clear hdl hs
      go_wp2
      go_ret
      refine ⟨?_, rfl⟩
      rw [HS2.out, Bool.true_and, ← HD.out]; rfl

@[reducible] def Pt.okIn (srv : List Int) (p : Pt) : Prop := p.a ≠ p.b ∧ p.a ∈ srv ∧ p.b ∈ srv
set_option maxRecDepth 100000 in
theorem areCopies_any {w : World} {v : Value} {l : List Int} (h : InI w v l) (hl : l.length ≤ 100000) (p : Pt) :
    Calls Tryz.prog 50 #[p.val, v] w fun e w' => e = .returned (.bool (decide (p.okIn l))) ∧ Below w.heap.size w w' := by
  obtain ⟨f, t, a, b⟩ := p
  have hb1 : Below w.heap.size w (w.alloc (.cells #[.int .i64 f, .int .i64 t, .int .i64 a, .int .i64 b] 85)) := (Below.refl _ _).alloc (Nat.le_refl _) _
  have HB := Lib.hid hb1
  have HA := Lib.hid (contains_any (h.below hb1) a hl)
  have HB2 := Lib.hid (contains_any (h.below hb1) b hl)
  clear h hb1
  show Calls _ _ #[.agg #[.int .i64 f, .int .i64 t, .int .i64 a, .int .i64 b], v] w _
  by_cases h1 : a = b
  · subst h1
    go_enter Tryz.func50, Tryz.ntmps50
    go_wp2_with fail
    go_ret
    refine ⟨?_, HB.out⟩
    rw [decide_eq_false (fun h => h.1 rfl)]
    rfl
  · by_cases h2 : a ∈ l
    · have d2 : decide (a ∈ l) = true := decide_eq_true h2
      by_cases h3 : b ∈ l
      · have d3 : decide (b ∈ l) = true := decide_eq_true h3
        go_enter Tryz.func50, Tryz.ntmps50
        go_wp2_with (go_at_call 62; first
          | ((with_reducible refine HA.out.mono ?_); rintro e w' ⟨rfl, rfl⟩; rw [d2])
          | ((with_reducible refine HB2.out.mono ?_); rintro e w' ⟨rfl, rfl⟩; rw [d3]))
        go_ret
        refine ⟨?_, HB.out⟩
        rw [decide_eq_true (show Pt.okIn l ⟨f, t, a, b⟩ from ⟨h1, h2, h3⟩)]
        first | rfl | (show Ending.returned (.bool (a != b)) = _; rw [show (a != b) = true by simpa using h1])
      · have d3 : decide (b ∈ l) = false := decide_eq_false h3
        go_enter Tryz.func50, Tryz.ntmps50
        go_wp2_with (go_at_call 62; first
          | ((with_reducible refine HA.out.mono ?_); rintro e w' ⟨rfl, rfl⟩; rw [d2])
          | ((with_reducible refine HB2.out.mono ?_); rintro e w' ⟨rfl, rfl⟩; rw [d3]))
        go_ret
        refine ⟨?_, HB.out⟩
        rw [decide_eq_false (show ¬ Pt.okIn l ⟨f, t, a, b⟩ from fun h => h3 h.2.2)]
        first | rfl | (show Ending.returned (.bool (a != b)) = _; rw [show (a != b) = true by simpa using h1])
    · have d2 : decide (a ∈ l) = false := decide_eq_false h2
      go_enter Tryz.func50, Tryz.ntmps50
      go_wp2_with (go_at_call 62; first
        | ((with_reducible refine HA.out.mono ?_); rintro e w' ⟨rfl, rfl⟩; rw [d2])
        | fail)
      go_ret
      refine ⟨?_, HB.out⟩
      rw [decide_eq_false (show ¬ Pt.okIn l ⟨f, t, a, b⟩ from fun h => h2 h.2.1)]
      first | rfl | (show Ending.returned (.bool (a != b)) = _; rw [show (a != b) = true by simpa using h1])

theorem pts_step {srv : List Int} {at_ : Int} {l : List Pt} {k : Nat} {p : Pt} (hx : l[k]? = some p) : ptsOk srv at_ 256 (l.drop k) = (decide (ptOk srv at_ p) && ptsOk srv p.t 256 (l.drop (k + 1))) := by
  obtain ⟨h1, h2⟩ := List.getElem?_eq_some_iff.1 hx
  rw [List.drop_eq_getElem_cons h1, h2]; rfl
set_option maxRecDepth 100000 in
set_option maxHeartbeats 1000000 in
theorem areParts_any {w : World} {v pv : Value} {l : List Int} {ps : List Pt} (h : InI w v l) (hl : l.length ≤ 100000) (hp : InP w pv ps) (hpl : ps.length ≤ 100000) :
    Calls Tryz.prog 32 #[pv, v] w fun e w' => e = .returned (.bool (ptsOk l 0 256 ps)) ∧ Below w.heap.size w w' := by
  obtain ⟨A, c, rfl, hc⟩ := hp
  have HC := Lib.hid hc
  have HI := Lib.hid (fun (W : World) (hb : Below w.heap.size w W) => h.below hb)
  clear hc h
  go_enter Tryz.func32, Tryz.ntmps32
  go_wp2
  go_loopw [5, 10] (fun av iv wr => ∃ (k : Nat) (at_ : Int), k ≤ ps.length ∧ iv = .int .i64 k ∧ av = .int .i64 at_ ∧ Below w.heap.size w wr ∧ ptsOk l 0 256 ps = ptsOk l at_ 256 (ps.drop k)) (fun _ iv _ => ps.length - (intOf iv).toNat)
  case atStart => exact ⟨0, 0, Nat.zero_le _, rfl, rfl, Below.refl _ _, rfl⟩
  case round =>
    obtain ⟨k, at_, hk, rfl, rfl, hb, hs⟩ := hrel
    have HS := Lib.hid hs
    have HB := Lib.hid hb
    clear hs hb
    by_cases hlt : k < ps.length
    · obtain ⟨p, hx⟩ : ∃ y, ps[k]? = some y := ⟨_, List.getElem?_eq_getElem hlt⟩
      obtain ⟨g, o, rfl, hg, hcl⟩ := HC.out k p hx
      obtain ⟨c0, c1, c2, c3⟩ := hcl.below HB.out hg
      have HX := Lib.hid hx
      have hkI : (0 : Int) ≤ (k : Int) := by omega
      have hlI : (k : Int) < (ps.length : Int) := by omega
      clear hx hcl
      obtain ⟨f, t, a, b⟩ := p
      have hb1 : Below wr.heap.size wr (wr.alloc (.cells #[.int .i64 f, .int .i64 t, .int .i64 a, .int .i64 b] 85)) := (Below.refl _ _).alloc (Nat.le_refl _) _
      have HB1 := Lib.hid (HB.out.trans (hb1.mono HB.out.size))
      have HN := Lib.hid (areCopies_any (HI.out _ HB1.out) hl ⟨f, t, a, b⟩)
      clear hb1
      by_cases h1 : f = at_
      · subst h1
        by_cases h2 : t ≤ f
        · go_wp2_with fail
          go_ret
          refine ⟨?_, HB1.out⟩
          rw [HS.out, pts_step HX.out, decide_eq_false (fun h => by have : f < t := h.2.1; omega)]; rfl
        · by_cases h3 : Pt.okIn l ⟨f, t, a, b⟩
          · have hd := decide_eq_true h3
            have HD := Lib.hid hd
            clear hd
            go_wp2_with fail
            go_at_call 50
            refine HN.out.mono ?_
            rintro e w' ⟨rfl, hb'⟩
            have hct : w'.cell? ⟨wr.heap.size, 1, none⟩ = some (.int .i64 t) := (hb'.cell (p := ⟨wr.heap.size, 1, none⟩) (by simp)).trans (by simp)
            have HB2 := Lib.hid (HB1.out.trans (hb'.mono HB1.out.size))
            rw [HD.out]
            clear hb' HB1
            go_wp2_with fail
            go_roundw
            case rel =>
              refine ⟨k + 1, t, by omega, by go_num, rfl, HB2.out, ?_⟩
              rw [HS.out, pts_step HX.out, decide_eq_true (show ptOk l f ⟨f, t, a, b⟩ from ⟨rfl, by show f < t; omega, h3.2.1, h3.2.2, h3.1⟩), Bool.true_and]
            case measure => simp only [intOf]; omega
          · have hd := decide_eq_false h3
            have HD := Lib.hid hd
            clear hd
            go_wp2_with fail
            go_at_call 50
            refine HN.out.mono ?_
            rintro e w' ⟨rfl, hb'⟩
            have HB2 := Lib.hid (HB1.out.trans (hb'.mono HB1.out.size))
            rw [HD.out]
            clear hb' HB1
            go_wp2_with fail
            go_ret
            refine ⟨?_, HB2.out⟩
            rw [HS.out, pts_step HX.out, decide_eq_false (show ¬ ptOk l f ⟨f, t, a, b⟩ from fun h => h3 ⟨h.2.2.2.2, h.2.2.1, h.2.2.2.1⟩)]; rfl
      · go_wp2_with fail
        go_ret
        refine ⟨?_, HB1.out⟩
        rw [HS.out, pts_step HX.out, decide_eq_false (fun h => h1 h.1)]; rfl
    · have hlI : ¬ (k : Int) < (ps.length : Int) := by omega
      have hs : ptsOk l 0 256 ps = decide (at_ = 256) := by rw [HS.out, List.drop_of_length_le (by omega)]; rfl
      have HS2 := Lib.hid hs
      clear hs
      go_wp2
      go_ret
      exact ⟨by rw [HS2.out]; rfl, HB.out⟩
end Go.Proofs.YthjinpbclfankaaGreatDoor
