/-
  The bag's Send, Twice, Take, Drop, Late and Cut (package bag), by contracts.
-/
import Derived.Test.YthcoghgpdcnhlaaSend
namespace Go.Proofs.Ythcoghgpdcnhlaa
open Go.RowKit

theorem Fr.after {b : Nat} {row : Option Nat} {w w0 w' : World} (hf : Fr b row w0 w') (hb : Below w.heap.size w w0) : Fr b row w w' := (Fr.of_below hb).trans hf (.inl rfl)
theorem RowOk.after {row row' : Option Nat} {w w0 : World} (h : RowOk row row' w0) (hb : Below w.heap.size w w0) : RowOk row row' w := by
  rcases h with h | h | ⟨g, h, hg⟩
  · exact .inl h
  · exact .inr (.inl h)
  · exact .inr (.inr ⟨g, h, by have := hb.size; omega⟩)
/-- What Send answers, and leaves. -/
def sendE (l : List M) (m : M) : Int := if m.chk = 0 then roomE l else m.chk
def sendL (l : List M) (m : M) : List M := if m.chk = 0 then roomL l m else l

set_option maxRecDepth 100000 in
set_option maxHeartbeats 2000000 in
theorem send_any (b : Nat) (row : Option Nat) (l : List M) (m : M) (w : World) (hB : Bg w b row l) (hl : l.length ≤ 900) :
    Calls Try.prog 18 #[.pointer (some ⟨b, 0, none⟩), m.val] w fun e w' => e = .returned (.int .i64 (sendE l m)) ∧ ∃ row', Bg w' b row' (sendL l m) ∧ RowOk row row' w ∧ Fr b row w w' := by
  have hbl := hB.lt
  have hb0 : Below w.heap.size w (w.alloc (.cells m.cells 31)) := (Below.refl _ _).alloc (Nat.le_refl _) _
  have HB0 := Lib.hid hb0
  have HBg0 := Lib.hid (hB.below hb0)
  have HM0 := Lib.hid (Mat.fresh w m 31)
  clear hb0 hB
  by_cases hc : m.chk = 0
  · have e1 : sendE l m = roomE l := if_pos hc
    have e2 : sendL l m = roomL l m := if_pos hc
    rw [e1, e2]
    go_enter Try.func18, Try.ntmps18
    go_wp2_with fail
    go_at_call 36
    refine (check_any m _).mono ?_
    rintro e w1 ⟨rfl, hb1⟩
    rw [hc]
    have HB1 := Lib.hid (HB0.out.trans (hb1.mono HB0.out.size))
    have HBg1 := Lib.hid (HBg0.out.below hb1)
    have HM1 := Lib.hid (HM0.out.below hb1)
    obtain ⟨d0, d1, d2, d3, d4, d5, d6, d7⟩ := HM1.out.all
    clear hb1 HB0 HBg0 HM0 hc
    go_wp2_with fail
    go_at_call 37
    refine (room_any _ _ l m _ HBg1.out hl).mono ?_
    rintro e w2 ⟨rfl, r2, hB2, hr2, hf2⟩
    have H2 := Lib.hid (And.intro hB2 (And.intro hr2 hf2))
    clear hB2 hr2 hf2
    go_wp2
    go_ret
    exact ⟨rfl, r2, H2.out.1, H2.out.2.1.after HB1.out, H2.out.2.2.after HB1.out⟩
  · have e1 : sendE l m = m.chk := if_neg hc
    have e2 : sendL l m = l := if_neg hc
    have hc1 : (m.chk != 0) = true := by simpa using hc
    rw [e1, e2]
    go_enter Try.func18, Try.ntmps18
    go_wp2_with fail
    go_at_call 36
    refine (check_any m _).mono ?_
    rintro e w1 ⟨rfl, hb1⟩
    have HB1 := Lib.hid (HB0.out.trans (hb1.mono HB0.out.size))
    have HBg1 := Lib.hid (HBg0.out.below hb1)
    clear hb1 HB0 HBg0 HM0
    go_wp2
    go_ret
    exact ⟨rfl, row, HBg1.out, .inl rfl, Fr.of_below HB1.out⟩

/-- Is there a place i? -/
def has (l : List M) (i : Int) : Prop := 0 ≤ i ∧ i < (l.length : Int)
/-- What stands there. -/
def atP (l : List M) (i : Int) : M := (l[i.toNat]?).getD M.zero
theorem atP_get {l : List M} {i : Int} (h : has l i) : l[i.toNat]? = some (atP l i) := by
  unfold has at h
  have hl : i.toNat < l.length := by omega
  rw [atP, List.getElem?_eq_getElem hl]; rfl
theorem not_has {l : List M} {i : Int} (h : ¬ has l i) : i < 0 ∨ (l.length : Int) ≤ i := by unfold has at h; omega

set_option maxRecDepth 100000 in
set_option maxHeartbeats 2000000 in
theorem twice_no (b : Nat) (row : Option Nat) (l : List M) (i : Int) (w : World) (hB : Bg w b row l) (hi : ¬ has l i) :
    Calls Try.prog 19 #[.pointer (some ⟨b, 0, none⟩), .int .i64 i] w fun e w' => e = .returned (.int .i64 3) ∧ ∃ row', Bg w' b row' l ∧ RowOk row row' w ∧ Fr b row w w' := by
  have hbl := hB.lt
  have HB := Lib.hid hB
  obtain ⟨s, hs, -⟩ := hB
  go_enter Try.func19, Try.ntmps19
  go_wp2_with fail
  go_at_call 26
  refine (at_no _ _ l i _ HB.out (not_has hi)).mono ?_
  rintro e w1 ⟨rfl, hb1⟩
  have H1 := Lib.hid hb1
  clear hb1
  go_wp2
  go_ret
  have hb2 : Below w.heap.size w (w1.alloc (.cells M.zero.cells 31)) := H1.out.alloc H1.out.size _
  exact ⟨rfl, row, HB.out.below hb2, .inl rfl, Fr.of_below hb2⟩

set_option maxRecDepth 100000 in
set_option maxHeartbeats 2000000 in
theorem twice_yes (b : Nat) (row : Option Nat) (l : List M) (i : Nat) (m : M) (w : World) (hB : Bg w b row l) (hi : l[i]? = some m) (hl : l.length ≤ 900) :
    Calls Try.prog 19 #[.pointer (some ⟨b, 0, none⟩), .int .i64 i] w fun e w' => e = .returned (.int .i64 (roomE l)) ∧ ∃ row', Bg w' b row' (roomL l m) ∧ RowOk row row' w ∧ Fr b row w w' := by
  have hbl := hB.lt
  have HB := Lib.hid hB
  obtain ⟨s, hs, -⟩ := hB
  go_enter Try.func19, Try.ntmps19
  go_wp2_with fail
  go_at_call 26
  refine (at_yes _ _ l i m _ HB.out hi (by omega)).mono ?_
  rintro e w1 ⟨rfl, hb1⟩
  have hb2 : Below w.heap.size w (w1.alloc (.cells m.cells 31)) := hb1.alloc hb1.size _
  have H2 := Lib.hid hb2
  have HB2 := Lib.hid (HB.out.below hb2)
  clear hb1 hb2
  go_wp2_with fail
  go_at_call 37
  refine (room_any _ _ l m _ HB2.out hl).mono ?_
  rintro e w3 ⟨rfl, r3, hB3, hr3, hf3⟩
  have H3 := Lib.hid (And.intro hB3 (And.intro hr3 hf3))
  clear hB3 hr3 hf3
  go_wp2
  go_ret
  exact ⟨rfl, r3, H3.out.1, H3.out.2.1.after H2.out, H3.out.2.2.after H2.out⟩

set_option maxRecDepth 100000 in
set_option maxHeartbeats 2000000 in
theorem cut_any (b : Nat) (row : Option Nat) (l : List M) (i : Int) (w : World) (hB : Bg w b row l) (hl : l.length ≤ 900) :
    Calls Try.prog 22 #[.pointer (some ⟨b, 0, none⟩), .int .i64 i] w fun e w' => e = .returned (.int .i64 ((l.length : Int) - ((l.filter (fun m => m.dst != i && m.src != i)).length : Int))) ∧ ∃ row', Bg w' b row' (l.filter (fun m => m.dst != i && m.src != i)) ∧ RowOk row row' w ∧ Fr b row w w' := by
  have hbl := hB.lt
  have hbA : Below w.heap.size w (w.alloc (.cells #[.int .i64 i] 3)) := (Below.refl _ _).alloc (Nat.le_refl _) _
  have HB := Lib.hid (hB.below hbA)
  have HA := Lib.hid hbA
  have HC := Lib.hid (show (w.alloc (.cells #[.int .i64 i] 3)).cell? ⟨w.heap.size, 0, none⟩ = some (.int .i64 i) by simp)
  obtain ⟨s, hs, -⟩ := hB
  have HK := Lib.hid (show kp (fun _ m => m.dst != i && m.src != i) l l.length = l.filter (fun m => m.dst != i && m.src != i) by rw [kp_cut _ _ _ (Nat.le_refl _), List.take_length])
  clear hbA
  go_enter Try.func22, Try.ntmps22
  go_wp2_with fail
  go_at_call 27
  refine (keep_cut _ _ _ l i _ HB.out (by omega) HC.out).mono ?_
  rw [HK.out]
  rintro e w' ⟨rfl, r, h1, h2, h3⟩
  have H1 := Lib.hid (And.intro h1 (And.intro h2 h3))
  clear h1 h2 h3
  go_wp2
  go_ret
  exact ⟨rfl, r, H1.out.1, H1.out.2.1.after HA.out, H1.out.2.2.after HA.out⟩
end Go.Proofs.Ythcoghgpdcnhlaa
