/-
  Open (package check), by contracts; the document's own.
-/
import Derived.Test.YtacdbfaoeioflaaDoorTail
import Derived.Deep.RegionHeld3
import Derived.Deep.QuietTactic
import Derived.BigQuiet
import Derived.WalkSmall
namespace Go.Proofs.YtacdbfaoeioflaaDoor
open Go.RowKit

theorem str_inj {a b : ByteArray} (h : a.toList = b.toList) : a = b := by
  rw [ByteArray.toList_eq, ByteArray.toList_eq] at h
  exact ByteArray.ext (Array.toList_inj.1 h)
theorem str_ne {a b : ByteArray} (h : a ≠ b) : (a.toList == b.toList) = false := by
  simp only [beq_eq_false_iff_ne, ne_eq]; exact fun e => h (str_inj e)
theorem str_eq {a b : ByteArray} (h : a = b) : (a.toList == b.toList) = true := by subst h; simp

set_option maxRecDepth 100000 in
theorem open_few (s : ByteArray) (w : World) (h : s.size < 4) :
    Calls Tryd.prog 20 #[.string s] w fun e w' => e = .returned (.tuple #[.string ByteArray.empty, .bool false]) ∧ Below w.heap.size w w' := by
  have h1 : decide ((s.size : Int) - 4 < 0) = true := by simp only [decide_eq_true_eq]; omega
  have h2 : (s.size : Int) < 4 := by omega
  go_enter Tryd.func20, Tryd.ntmps20
  go_wp2
  go_quiet (fail)
  go_wp2
  go_ret2
  exact ⟨rfl, below_drewN (Below.refl _ _) _⟩

set_option maxRecDepth 100000 in
set_option maxHeartbeats 1000000 in
theorem open_no (s : ByteArray) (n : Nat) (w : World) (hT : Tab w) (hs : s.size ≤ 1000000000000) (h : s.size = n + 4) (hne : s.extract n s.size ≠ four (sumOf (s.extract 0 n))) :
    Calls Tryd.prog 20 #[.string s] w fun e w' => e = .returned (.tuple #[.string ByteArray.empty, .bool false]) ∧ Below w.heap.size w w' := by
  have HT := Lib.hid (hT.below (Below.refl _ _).drew)
  have hq : (s.size : Int) - 4 = (n : Int) := by omega
  have h1 : decide ((n : Int) < 0) = false := by simp only [decide_eq_false_iff_not]; omega
  have h2 : (n : Int) ≤ (s.size : Int) := by omega
  have hpz : (s.extract 0 n).size ≤ 1000000000000 := by rw [ByteArray.size_extract]; omega
  obtain ⟨p, hp⟩ : ∃ p, s.extract 0 n = p := ⟨_, rfl⟩
  obtain ⟨q, hQ⟩ : ∃ q, s.extract n s.size = q := ⟨_, rfl⟩
  rw [hp, hQ] at hne
  rw [hp] at hpz
  have HZ := Lib.hid hpz
  have hx := str_ne hne
  clear hT h hpz hne
  go_enter Tryd.func20, Tryd.ntmps20
  go_wp2
  go_region_held3 (fun w' => Tab w') (first | exact HT.out | exact HT1.out | fail) (first | (go_at_call 37; refine (tail_any p _ HT.out HZ.out).mono ?_; rintro e w1 ⟨rfl, hb1⟩; have HT1 := Lib.hid (HT.out.below hb1); have HB1 := Lib.hid hb1; clear hb1) | fail)
  go_wp2
  go_ret2
  exact ⟨rfl, ((Below.refl _ _).drew).trans HB1.out⟩

set_option maxRecDepth 100000 in
set_option maxHeartbeats 1000000 in
theorem open_yes (s : ByteArray) (n : Nat) (w : World) (hT : Tab w) (hs : s.size ≤ 1000000000000) (h : s.size = n + 4) (heq : s.extract n s.size = four (sumOf (s.extract 0 n))) :
    Calls Tryd.prog 20 #[.string s] w fun e w' => e = .returned (.tuple #[.string (s.extract 0 n), .bool true]) ∧ Below w.heap.size w w' := by
  have HT := Lib.hid (hT.below (Below.refl _ _).drew)
  have hq : (s.size : Int) - 4 = (n : Int) := by omega
  have h1 : decide ((n : Int) < 0) = false := by simp only [decide_eq_false_iff_not]; omega
  have h2 : (n : Int) ≤ (s.size : Int) := by omega
  have hpz : (s.extract 0 n).size ≤ 1000000000000 := by rw [ByteArray.size_extract]; omega
  obtain ⟨p, hp⟩ : ∃ p, s.extract 0 n = p := ⟨_, rfl⟩
  obtain ⟨q, hQ⟩ : ∃ q, s.extract n s.size = q := ⟨_, rfl⟩
  rw [hp, hQ] at heq
  rw [hp] at hpz
  have HZ := Lib.hid hpz
  have hx := str_eq heq
  have HP := Lib.hid hp
  clear hT h hpz heq
  go_enter Tryd.func20, Tryd.ntmps20
  go_wp2
  go_region_held3 (fun w' => Tab w') (first | exact HT.out | exact HT1.out | fail) (first | (go_at_call 37; refine (tail_any p _ HT.out HZ.out).mono ?_; rintro e w1 ⟨rfl, hb1⟩; have HT1 := Lib.hid (HT.out.below hb1); have HB1 := Lib.hid hb1; clear hb1) | fail)
  go_wp2
  go_ret2
  exact ⟨by rw [HP.out]; rfl, ((Below.refl _ _).drew).trans HB1.out⟩

end Go.Proofs.YtacdbfaoeioflaaDoor
