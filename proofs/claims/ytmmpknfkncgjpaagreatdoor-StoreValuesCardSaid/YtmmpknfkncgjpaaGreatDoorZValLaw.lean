/-
  StoreValues: Value and Parse of the package are the document's; what is written is read again.
-/
import Derived.Test.YtmmpknfkncgjpaaGreatDoorM45
namespace Go.Proofs.YtmmpknfkncgjpaaGreatDoor
open Go.RowKit

set_option maxRecDepth 100000 in
set_option maxHeartbeats 4000000 in
theorem valuesLaw_any (ver : Int) (d s : ByteArray) (w : World) (hT : Tab w) (hE : ErrType w) :
    Calls Tryz.prog 4 #[.int .i64 ver, .string d, .string s] w fun e w' => e = .returned (.bool true) ∧ Below w.heap.size w w' := by
  by_cases h1 : (1024 : Int) < (d.size : Int)
  · have hd1 : decide ((1024 : Int) < (d.size : Int)) = true := decide_eq_true h1
    clear h1
    go_enter Tryz.func4, Tryz.ntmps4
    go_wp2
    go_ret
    exact ⟨rfl, Below.refl _ _⟩
  have hd1 : decide ((1024 : Int) < (d.size : Int)) = false := decide_eq_false h1
  by_cases h2 : (1024 : Int) < (s.size : Int)
  · have hd2 : decide ((1024 : Int) < (s.size : Int)) = true := decide_eq_true h2
    clear h1 h2
    go_enter Tryz.func4, Tryz.ntmps4
    go_wp2
    go_ret
    exact ⟨rfl, Below.refl _ _⟩
  have hd2 : decide ((1024 : Int) < (s.size : Int)) = false := decide_eq_false h2
  have hsz : s.size ≤ 1000000000 := by omega
  clear h1 h2
  have HT := Lib.hid hT
  have HE := Lib.hid hE
  clear hT hE
  obtain ⟨t, ve, hv⟩ : ∃ a b, valO ver d = (a, b) := ⟨_, _, rfl⟩
  obtain ⟨a, b, g, hp⟩ : ∃ a b c, parO s = ((a, b), c) := ⟨_, _, _, rfl⟩
  obtain ⟨x, y, bk, hq⟩ : ∃ a b c, parO t = ((a, b), c) := ⟨_, _, _, rfl⟩
  have hor : (ve = 0 ∧ bk = 0 ∧ x = ver ∧ y = d ∧ t.size ≤ 1000000000) ∨ (ve ≠ 0 ∧ bk = 30 ∧ t.size ≤ 1000000000) := by
    unfold valO at hv
    split at hv
    · rename_i hz
      simp only [Prod.mk.injEq] at hv
      obtain ⟨rfl, rfl⟩ := hv
      rw [parO_some (parOf_val hz)] at hq
      simp only [Prod.mk.injEq] at hq
      obtain ⟨⟨h1, h2⟩, h3⟩ := hq
      have := valB_size ver d
      have := (valE_zero hz).2.2
      exact .inl ⟨rfl, h3.symm, h1.symm, h2.symm, by omega⟩
    · rename_i hz
      simp only [Prod.mk.injEq] at hv
      obtain ⟨rfl, rfl⟩ := hv
      rw [parO_none parOf_empty] at hq
      simp only [Prod.mk.injEq] at hq
      exact .inr ⟨hz, hq.2.symm, by decide⟩
  have HV := Lib.hid (show ∀ V, Calls Tryz.prog 19 #[.int .i64 ver, .string d] V fun e w' => e = .returned (.tuple #[.string t, .int .i64 ve]) ∧ Below V.heap.size V w' from fun V => by
    have := value_any ver d V
    rw [hv] at this; exact this)
  have HRV := Lib.hid (show ∀ V, Calls Tryz.prog 20 #[.int .i64 ver, .string d] V fun e w' => e = .returned (.tuple #[.string t, .int .i64 ve]) ∧ Below V.heap.size V w' from fun V => by
    have := rvalue_any ver d V
    rw [hv] at this; exact this)
  have HP := Lib.hid (show ∀ V, ErrType V → Calls Tryz.prog 21 #[.string s] V fun e w' => e = .returned (.tuple #[.int .i64 a, .string b, .int .i64 g]) ∧ Below V.heap.size V w' from fun V hV => by
    have := parse13_any s V hV hsz
    rw [hp] at this; exact this)
  have HRP := Lib.hid (show ∀ V, Calls Tryz.prog 22 #[.string s] V fun e w' => e = .returned (.tuple #[.int .i64 a, .string b, .int .i64 g]) ∧ Below V.heap.size V w' from fun V => by
    have := rparse13_any s V hsz
    rw [hp] at this; exact this)
  have HQ := Lib.hid (show ∀ V, ErrType V → Calls Tryz.prog 21 #[.string t] V fun e w' => e = .returned (.tuple #[.int .i64 x, .string y, .int .i64 bk]) ∧ Below V.heap.size V w' from fun V hV => by
    have := parse13_any t V hV (by rcases hor with h | h; exact h.2.2.2.2; exact h.2.2)
    rw [hq] at this; exact this)
  have hself : ∀ z : ByteArray, (z.toList == z.toList) = true := fun z => by simp
  have hs1 := hself t
  have hs2 := hself b
  have hs3 := hself d
  clear hself hv hp hq hsz
  go_enter Tryz.func4, Tryz.ntmps4
  go_wp2_with fail
  go_at_call 19
  refine (HV.out _).mono ?_
  rintro e w1 ⟨rfl, k1⟩
  have B1 := Lib.hid k1
  clear k1
  go_wp2_with fail
  go_at_call 20
  refine (HRV.out _).mono ?_
  rintro e w2 ⟨rfl, k1⟩
  have B2 := Lib.hid (B1.out.trans (k1.mono B1.out.size))
  clear k1
  go_wp2_with fail
  go_at_call 21
  refine (HP.out _ (HE.out.below B2.out)).mono ?_
  rintro e w3 ⟨rfl, k1⟩
  have B3 := Lib.hid (B2.out.trans (k1.mono B2.out.size))
  clear k1
  go_wp2_with fail
  go_at_call 22
  refine (HRP.out _).mono ?_
  rintro e w4 ⟨rfl, k1⟩
  have B4 := Lib.hid (B3.out.trans (k1.mono B3.out.size))
  clear k1
  go_wp2_with fail
  go_at_call 11
  refine (shown13_any (HT.out.below B4.out) (HE.out.below B4.out)).mono ?_
  rintro e w5 ⟨rfl, k1⟩
  have B5 := Lib.hid (B4.out.trans (k1.mono B4.out.size))
  clear k1
  go_wp2_with fail
  go_at_call 21
  refine (HQ.out _ (HE.out.below B5.out)).mono ?_
  rintro e w6 ⟨rfl, k1⟩
  have B6 := Lib.hid (B5.out.trans (k1.mono B5.out.size))
  clear k1 HV HRV HP HRP HQ
  rcases hor with ⟨rfl, rfl, rfl, rfl, -⟩ | ⟨h1, rfl, -⟩
  · go_wp2
    go_ret
    exact ⟨rfl, B6.out⟩
  · have hz : (ve == 0) = false := by simpa using h1
    have hz2 : (ve != 0) = true := by simpa using h1
    clear h1
    go_wp2
    go_ret
    exact ⟨rfl, B6.out⟩
end Go.Proofs.YtmmpknfkncgjpaaGreatDoor
