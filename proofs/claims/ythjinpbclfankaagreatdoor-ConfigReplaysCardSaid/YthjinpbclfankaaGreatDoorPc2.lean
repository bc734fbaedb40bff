/-
  Check, Where, Table, New (package config), by contracts.
-/
import Derived.Test.YthjinpbclfankaaGreatDoorPc1
namespace Go.Proofs.YthjinpbclfankaaGreatDoor
open Go.RowKit

theorem IC.look {w : World} {v : Value} {c : Cf} (h : IC w v c) : ∃ sv pv, v = .agg #[.int .i64 c.e, sv, pv, .int .i64 c.t] ∧ Hid (∀ W, Below w.heap.size w W → InI W sv c.srv ∧ InP W pv c.pts) := by
  obtain ⟨sv, pv, rfl, h1, h2⟩ := h
  exact ⟨sv, pv, rfl, Lib.hid fun W hb => ⟨h1.below hb, h2.below hb⟩⟩
theorem cells4 (w : World) (N : Nat) (hN : w.heap.size = N) (a b c d : Value) (t : TypeId) : (w.alloc (.cells #[a, b, c, d] t)).cell? ⟨N, 0, none⟩ = some a ∧ (w.alloc (.cells #[a, b, c, d] t)).cell? ⟨N, 1, none⟩ = some b ∧ (w.alloc (.cells #[a, b, c, d] t)).cell? ⟨N, 2, none⟩ = some c ∧ (w.alloc (.cells #[a, b, c, d] t)).cell? ⟨N, 3, none⟩ = some d := by
  subst hN; exact ⟨by simp, by simp, by simp, by simp⟩
/-- A config in a block of its own stays, while others come. -/
theorem cells4_below {w W : World} {N : Nat} {a b c d : Value} {t : TypeId} (hN : w.heap.size = N) (hb : Below (N + 1) (w.alloc (.cells #[a, b, c, d] t)) W) : W.cell? ⟨N, 0, none⟩ = some a ∧ W.cell? ⟨N, 1, none⟩ = some b ∧ W.cell? ⟨N, 2, none⟩ = some c ∧ W.cell? ⟨N, 3, none⟩ = some d := by
  obtain ⟨h0, h1, h2, h3⟩ := cells4 w N hN a b c d t
  exact ⟨(hb.cell (p := ⟨N, 0, none⟩) (by simp)).trans h0, (hb.cell (p := ⟨N, 1, none⟩) (by simp)).trans h1, (hb.cell (p := ⟨N, 2, none⟩) (by simp)).trans h2, (hb.cell (p := ⟨N, 3, none⟩) (by simp)).trans h3⟩

theorem not_ok_head {c : Cf} (h : ¬ (1 ≤ c.e ∧ c.e ≤ 1099511627776)) : ¬ c.ok := fun k => h ⟨k.1.1, k.1.2.1⟩
set_option maxRecDepth 100000 in
set_option maxHeartbeats 1000000 in
theorem check_any {w : World} {v : Value} {c : Cf} (h : IC w v c) (hl : c.srv.length ≤ 100000) (hp : c.pts.length ≤ 100000) :
    Calls Tryz.prog 13 #[v] w fun e w' => e = .returned (.int .i64 (chk c)) ∧ Below w.heap.size w w' := by
  obtain ⟨sv, pv, rfl, HC⟩ := h.look
  clear h
  obtain ⟨e, srv, pts, t⟩ := c
  show Calls _ _ #[.agg #[.int .i64 e, sv, pv, .int .i64 t]] w _
  replace hl : srv.length ≤ 100000 := hl
  replace hp : pts.length ≤ 100000 := hp
  have hb1 : Below w.heap.size w (w.alloc (.cells #[.int .i64 e, sv, pv, .int .i64 t] 45)) := (Below.refl _ _).alloc (Nat.le_refl _) _
  have HB := Lib.hid hb1
  have HT := Lib.hid (areTables_any t)
  have HS := Lib.hid (areServers_any (HC.out _ hb1).1 hl)
  have HP := Lib.hid (areParts_any (HC.out _ hb1).1 hl (HC.out _ hb1).2 hp)
  clear hb1 HC
  by_cases h1 : 1 ≤ e
  · by_cases h2 : e ≤ 1099511627776
    · by_cases h3 : 1 ≤ t ∧ t ≤ 8
      · have d3 : decide (1 ≤ t ∧ t ≤ 8) = true := decide_eq_true h3
        have D3 := Lib.hid d3
        clear d3
        cases h4 : (srvOk (-1) srv && decide (2 ≤ srv.length)) with
        | true =>
          rw [h4] at HS
          cases h5 : ptsOk srv 0 256 pts with
          | true =>
            rw [h5] at HP
            have hk : chk ⟨e, srv, pts, t⟩ = 0 := (by rw [Bool.and_eq_true] at h4; exact chk_ok ⟨⟨h1, h2, h3.1, h3.2⟩, of_decide_eq_true h4.2, h4.1, h5⟩)
            rw [hk]
            clear h4 h5 hk
            go_enter Tryz.func13, Tryz.ntmps13
            go_wp2_with (first
              | (go_at_call 30; (with_reducible refine (HT.out _).mono ?_); rintro e w' ⟨rfl, rfl⟩; rw [D3.out])
              | (go_at_call 31; (with_reducible refine HS.out.mono ?_); rintro e w' ⟨rfl, rfl⟩)
              | (go_at_call 32; (with_reducible refine HP.out.mono ?_); rintro e w' ⟨rfl, hb⟩; have HB2 := Lib.hid (HB.out.trans (hb.mono HB.out.size)); clear hb)
              | fail)
            go_ret
            exact ⟨rfl, HB2.out⟩
          | false =>
            rw [h5] at HP
            have hk : chk ⟨e, srv, pts, t⟩ = 1 := chk_no fun k => by have := k.2.2.2; rw [show ptsOk srv 0 256 pts = false from h5] at this; cases this
            rw [hk]
            clear h4 h5 hk
            go_enter Tryz.func13, Tryz.ntmps13
            go_wp2_with (first
              | (go_at_call 30; (with_reducible refine (HT.out _).mono ?_); rintro e w' ⟨rfl, rfl⟩; rw [D3.out])
              | (go_at_call 31; (with_reducible refine HS.out.mono ?_); rintro e w' ⟨rfl, rfl⟩)
              | (go_at_call 32; (with_reducible refine HP.out.mono ?_); rintro e w' ⟨rfl, hb⟩; have HB2 := Lib.hid (HB.out.trans (hb.mono HB.out.size)); clear hb)
              | fail)
            go_ret
            exact ⟨rfl, HB2.out⟩
        | false =>
          rw [h4] at HS
          have hk : chk ⟨e, srv, pts, t⟩ = 1 := chk_no fun k => by
            have h6 : (srvOk (-1) srv && decide (2 ≤ srv.length)) = true := by
              rw [show srvOk (-1) srv = true from k.2.2.1, decide_eq_true (show 2 ≤ srv.length from k.2.1)]; rfl
            rw [h4] at h6; cases h6
          rw [hk]
          clear h4 hk
          go_enter Tryz.func13, Tryz.ntmps13
          go_wp2_with (first
            | (go_at_call 30; (with_reducible refine (HT.out _).mono ?_); rintro e w' ⟨rfl, rfl⟩; rw [D3.out])
            | (go_at_call 31; (with_reducible refine HS.out.mono ?_); rintro e w' ⟨rfl, rfl⟩)
            | fail)
          go_ret
          exact ⟨rfl, HB.out⟩
      · have d3 : decide (1 ≤ t ∧ t ≤ 8) = false := decide_eq_false h3
        have D3 := Lib.hid d3
        have hk : chk ⟨e, srv, pts, t⟩ = 1 := chk_no fun k => h3 ⟨k.1.2.2.1, k.1.2.2.2⟩
        rw [hk]
        clear d3 hk h3
        go_enter Tryz.func13, Tryz.ntmps13
        go_wp2_with (first
          | (go_at_call 30; (with_reducible refine (HT.out _).mono ?_); rintro e w' ⟨rfl, rfl⟩; rw [D3.out])
          | fail)
        go_ret
        exact ⟨rfl, HB.out⟩
    · rw [chk_no (not_ok_head (c := ⟨e, srv, pts, t⟩) fun k => h2 k.2)]
      go_enter Tryz.func13, Tryz.ntmps13
      go_wp2_with fail
      go_ret
      exact ⟨rfl, HB.out⟩
  · rw [chk_no (not_ok_head (c := ⟨e, srv, pts, t⟩) fun k => h1 k.1)]
    go_enter Tryz.func13, Tryz.ntmps13
    go_wp2_with fail
    go_ret
    exact ⟨rfl, HB.out⟩

/-- What Where tells. -/
def whrE (l : List Pt) (k : Int) : Int × Int × Int := match whr k l with
  | some x => (x.1, x.2, 0)
  | none => (0, 0, 71)
theorem whrE_some {l : List Pt} {k : Int} {x : Int × Int} (h : whr k l = some x) : whrE l k = (x.1, x.2, 0) := by unfold whrE; rw [h]
theorem whrE_none {l : List Pt} {k : Int} (h : whr k l = none) : whrE l k = (0, 0, 71) := by unfold whrE; rw [h]
theorem whr_step {l : List Pt} {k : Nat} {p : Pt} (hx : l[k]? = some p) (b : Int) : whr b (l.drop k) = if p.f ≤ b ∧ b < p.t then some (p.a, p.b) else whr b (l.drop (k + 1)) := by
  obtain ⟨h1, h2⟩ := List.getElem?_eq_some_iff.1 hx
  rw [List.drop_eq_getElem_cons h1, h2]; rfl
@[reducible] def tup3 (x : Int × Int × Int) : Value := .tuple #[.int .i64 x.1, .int .i64 x.2.1, .int .i64 x.2.2]
/-- What Table tells. -/
def tab (t b : Int) : Int := if t < 1 ∨ b < 1 then 0 else b % t
/-- The first config. -/
def cf0 : Cf := ⟨1, [0, 1], [⟨0, 256, 0, 1⟩], 1⟩
theorem cf0_ok : cf0.ok := by decide
theorem lit_ints (w : World) (N : Nat) (hN : w.heap.size = N) (l : List Int) (cs : Array Value) (hl : cs.toList = l.map (Value.int .i64)) (hm : l.length ≤ 1000) : OwnsI (w.alloc (.cells cs 3)) N (.slice (some ⟨N, 0, none⟩) l.length l.length) l := by
  subst hN
  unfold OwnsI
  rw [← hl]
  exact World.ownsRow_lit (base := w.heap.size) (e := 3) (size := 1) w cs l.length (Nat.le_refl _) (by unfold maxLen; omega) (by rw [← Array.length_toList, hl]; simp)
theorem lit_part (e : TypeId) (w : World) (N : Nat) (hN : w.heap.size = N) (l : List Pt) (cs : Array Value) (hl : cs.toList = pflat l) (hm : l.length ≤ 1000) : OwnsP e (w.alloc (.cells cs e)) N (.slice (some ⟨N, 0, none⟩) l.length l.length) l := by
  subst hN
  unfold OwnsP
  rw [← hl]
  exact World.ownsRow_lit (base := w.heap.size) (e := e) (size := 4) w cs l.length (Nat.le_refl _) (by unfold maxLen; omega) (by rw [← Array.length_toList, hl, pflat_length])
theorem OwnsI.below {w w' : World} {base : Nat} {v : Value} {l : List Int} (h : OwnsI w base v l) (hb : Below w.heap.size w w') : OwnsI w' base v l := owns_below hb h
theorem new12_any (w : World) : Calls Tryz.prog 14 #[] w fun e w' => ∃ v, e = .returned v ∧ IC w' v cf0 ∧ Below w.heap.size w w' := by
  go_enter Tryz.func14, Tryz.ntmps14
  go_wp2_with fail
  go_returns
  refine ⟨_, rfl, ⟨_, _, rfl, ?_, ?_⟩, by go_grown⟩
  · exact (OwnsI.inI (lit_ints _ (w.heap.size + 1) (by simp) [0, 1] _ rfl (by simp))).below ((Below.refl _ _).alloc (Nat.le_refl _) _)
  · exact OwnsP.inP (lit_part _ _ (w.heap.size + 1 + 1) (by simp) [⟨0, 256, 0, 1⟩] _ rfl (by simp))
end Go.Proofs.YthjinpbclfankaaGreatDoor
