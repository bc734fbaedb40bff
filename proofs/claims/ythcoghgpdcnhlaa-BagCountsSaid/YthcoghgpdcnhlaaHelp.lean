/-
  What the laws of layer 4 are helped by: Same, ints, count, heavy, by contracts.
-/
import Derived.Test.YthcoghgpdcnhlaaRfor
namespace Go.Proofs.Ythcoghgpdcnhlaa
open Go.RowKit

set_option maxRecDepth 100000 in
set_option maxHeartbeats 2000000 in
theorem same_yes (B1 B2 : Nat) (v u : Value) (l : List M) (w : World) (hv : Owns w B1 v l) (hu : Owns w B2 u l) (hl : l.length ≤ 900) :
    Calls Try.prog 13 #[v, u] w fun e w' => e = .returned (.bool true) ∧ Below w.heap.size w w' := by
  obtain ⟨A, ca, rfl, ha⟩ := hv.look
  obtain ⟨B, cb, rfl, hb⟩ := hu.look
  have HA := Lib.hid ha
  have HB := Lib.hid hb
  have hne : ((l.length : Int) != (l.length : Int)) = false := by simp
  clear ha hb hv hu
  go_enter Try.func13, Try.ntmps13
  go_wp2
  go_loopw [5] (fun iv wr => ∃ k : Nat, k ≤ l.length ∧ iv = .int .i64 k ∧ Below w.heap.size w wr) (fun iv _ => l.length - (intOf iv).toNat)
  case atStart => exact ⟨0, Nat.zero_le _, rfl, Below.refl _ _⟩
  case round =>
    obtain ⟨k, hk, rfl, hbw⟩ := hrel
    have hz := hbw.size
    by_cases hlt : k < l.length
    · obtain ⟨m, hm'⟩ : ∃ m, l[k]? = some m := ⟨_, List.getElem?_eq_getElem hlt⟩
      obtain ⟨g, rfl, hgl, hat⟩ := HA.out k m hm'
      obtain ⟨h, rfl, hhl, hat2⟩ := HB.out k m hm'
      obtain ⟨c0, c1, c2, c3, c4, c5, c6, c7⟩ := hat.kept (w' := wr) (fun o => hbw.cell (p := ⟨g, o, none⟩) hgl)
      obtain ⟨d0, d1, d2, d3, d4, d5, d6, d7⟩ := hat2.kept (w' := wr) (fun o => hbw.cell (p := ⟨h, o, none⟩) hhl)
      have hgr : g < wr.heap.size := by omega
      have hhr : h < wr.heap.size := by omega
      have hlI : (k : Int) < (l.length : Int) := by omega
      have hkI : (0 : Int) ≤ (k : Int) := by omega
      have hq := msg_sameN m
      have HW := Lib.hid hbw
      clear hm' hat hat2 hbw
      go_wp2
      go_quiet (fail)
      go_wp2
      go_roundw
      case rel => exact ⟨k + 1, by omega, by go_num, below_drewN HW.out _⟩
      case measure => simp [intOf]; omega
    · have hlI : ¬ ((k : Int) < (l.length : Int)) := by omega
      have HW := Lib.hid hbw
      clear hbw
      go_wp2
      go_ret
      exact ⟨rfl, HW.out⟩

set_option maxRecDepth 100000 in
set_option maxHeartbeats 2000000 in
theorem ints_yes (B1 B2 : Nat) (v u : Value) (l : List Int) (w : World) (hv : OwnsI w B1 v l) (hu : OwnsI w B2 u l) (hl : l.length ≤ 900) :
    Calls Try.prog 15 #[v, u] w fun e w' => e = .returned (.bool true) ∧ Below w.heap.size w w' := by
  obtain ⟨A, ca, rfl, ha⟩ := hv.look
  obtain ⟨B, cb, rfl, hb⟩ := hu.look
  have HA := Lib.hid ha
  have HB := Lib.hid hb
  clear ha hb hv hu
  go_enter Try.func15, Try.ntmps15
  go_wp2
  go_loopw [5] (fun iv wr => ∃ k : Nat, k ≤ l.length ∧ iv = .int .i64 k ∧ Below w.heap.size w wr) (fun iv _ => l.length - (intOf iv).toNat)
  case atStart => exact ⟨0, Nat.zero_le _, rfl, Below.refl _ _⟩
  case round =>
    obtain ⟨k, hk, rfl, hbw⟩ := hrel
    have hz := hbw.size
    by_cases hlt : k < l.length
    · obtain ⟨x, hm'⟩ : ∃ x, l[k]? = some x := ⟨_, List.getElem?_eq_getElem hlt⟩
      obtain ⟨g, rfl, hgl, hat⟩ := HA.out k x hm'
      obtain ⟨h, rfl, hhl, hat2⟩ := HB.out k x hm'
      have c0 := (hbw.cell (p := ⟨g, k, none⟩) hgl).trans hat
      have d0 := (hbw.cell (p := ⟨h, k, none⟩) hhl).trans hat2
      have hgr : g < wr.heap.size := by omega
      have hhr : h < wr.heap.size := by omega
      have hlI : (k : Int) < (l.length : Int) := by omega
      have hkI : (0 : Int) ≤ (k : Int) := by omega
      have HW := Lib.hid hbw
      clear hm' hat hat2 hbw
      go_wp2
      go_quiet (fail)
      go_wp2
      go_roundw
      case rel => exact ⟨k + 1, by omega, by go_num, below_drewN HW.out _⟩
      case measure => simp [intOf]; omega
    · have hlI : ¬ ((k : Int) < (l.length : Int)) := by omega
      have HW := Lib.hid hbw
      clear hbw
      go_wp2
      go_ret
      exact ⟨rfl, HW.out⟩

/-- How often a message is in a list. -/
def cnt (m : M) (l : List M) : Nat := l.countP (fun x => x.eqb m)
theorem cnt_take {m x : M} {l : List M} {k : Nat} (h : l[k]? = some x) : cnt m (l.take (k + 1)) = cnt m (l.take k) + (if x.eqb m = true then 1 else 0) := by
  unfold cnt
  rw [List.take_add_one, h, List.countP_append]
  simp [List.countP_cons]
theorem cnt_le (m : M) (l : List M) : cnt m l ≤ l.length := List.countP_le_length

set_option maxRecDepth 100000 in
set_option maxHeartbeats 2000000 in
theorem count_any (B1 : Nat) (v : Value) (l : List M) (m : M) (w : World) (hv : Owns w B1 v l) (hl : l.length ≤ 900) :
    Calls Try.prog 23 #[v, m.val] w fun e w' => e = .returned (.int .i64 (cnt m l)) ∧ Below w.heap.size w w' := by
  have hb0 : Below w.heap.size w (w.alloc (.cells m.cells 31)) := (Below.refl _ _).alloc (Nat.le_refl _) _
  have HM0 := Lib.hid (Mat.fresh w m 31)
  have HB0 := Lib.hid hb0
  obtain ⟨A, ca, rfl, ha⟩ := (hv.below hb0).look
  have HA := Lib.hid ha
  clear ha hv hb0
  go_enter Try.func23, Try.ntmps23
  go_wp2
  generalize w.alloc (.cells m.cells 31) = w0 at HM0 HB0 HA ⊢
  go_loopw [5, 6] (fun nv iv wr => ∃ k : Nat, k ≤ l.length ∧ iv = .int .i64 k ∧ nv = .int .i64 (cnt m (l.take k)) ∧ Below w0.heap.size w0 wr) (fun _ iv _ => l.length - (intOf iv).toNat)
  case atStart => exact ⟨0, Nat.zero_le _, rfl, by simp [cnt], Below.refl _ _⟩
  case round =>
    obtain ⟨k, hk, rfl, rfl, hbw⟩ := hrel
    have hz := hbw.size
    by_cases hlt : k < l.length
    · obtain ⟨x, hm'⟩ : ∃ x, l[k]? = some x := ⟨_, List.getElem?_eq_getElem hlt⟩
      have hct := cnt_take (m := m) hm'
      have hcl : cnt m (l.take k) ≤ k := Nat.le_trans (cnt_le m _) (by simp; omega)
      obtain ⟨g, rfl, hgl, hat⟩ := HA.out k x hm'
      obtain ⟨c0, c1, c2, c3, c4, c5, c6, c7⟩ := hat.kept (w' := wr) (fun o => hbw.cell (p := ⟨g, o, none⟩) hgl)
      obtain ⟨d0, d1, d2, d3, d4, d5, d6, d7⟩ := (HM0.out.below hbw).all
      have hgr : g < wr.heap.size := by omega
      have hlI : (k : Int) < (l.length : Int) := by omega
      have hkI : (0 : Int) ≤ (k : Int) := by omega
      have HW := Lib.hid hbw
      have hml := HM0.out.lt
      have hmr : w.heap.size < wr.heap.size := by omega
      clear hm' hat hbw
      generalize cnt m (l.take k) = c at hct hcl ⊢
      by_cases he : x.eqb m = true
      · have hq : ∀ W, (binOp .eql 31 x.val m.val).run Try.prog W = .ok (.bool true) W := fun W => by rw [msg_eq, he]
        have HCT := Lib.hid (show cnt m (l.take (k + 1)) = c + 1 by rw [hct, if_pos he])
        clear hct he
        go_wp2
        go_quiet (fail)
        go_wp2
        go_roundw
        case rel => exact ⟨k + 1, by omega, by go_num, by rw [HCT.out]; go_num, below_drewN HW.out _⟩
        case measure => simp [intOf]; omega
      · have hq : ∀ W, (binOp .eql 31 x.val m.val).run Try.prog W = .ok (.bool false) W := fun W => by rw [msg_eq, show x.eqb m = false by simpa using he]
        have HCT := Lib.hid (show cnt m (l.take (k + 1)) = c by rw [hct, if_neg he]; rfl)
        clear hct he
        go_wp2
        go_quiet (fail)
        go_wp2
        go_roundw
        case rel => exact ⟨k + 1, by omega, by go_num, by rw [HCT.out], below_drewN HW.out _⟩
        case measure => simp [intOf]; omega
    · have hlI : ¬ ((k : Int) < (l.length : Int)) := by omega
      have HW := Lib.hid hbw
      have HK := Lib.hid (show l.take k = l from List.take_of_length_le (by omega))
      clear hbw
      go_wp2
      go_ret
      exact ⟨by rw [HK.out]; rfl, HB0.out.trans (HW.out.mono HB0.out.size)⟩
end Go.Proofs.Ythcoghgpdcnhlaa
