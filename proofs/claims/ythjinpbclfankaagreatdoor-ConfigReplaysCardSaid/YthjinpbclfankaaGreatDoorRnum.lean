/-
  The reader's Num, by contracts.
-/
import Derived.Test.YthjinpbclfankaaGreatDoorReader
namespace Go.Proofs.YthjinpbclfankaaGreatDoor
open Go.RowKit Go.Extern.Stop Go.Stop Go.Extern Go.PlainAid Go.Lib

theorem unite_any (s : ByteArray) (k : Int) (w : World) (hk : Width k) (hs : k.toNat ≤ s.size) :
    Calls Tryz.prog 36 #[.string s, .int .i64 k] w fun e w' => e = .returned (.int .u64 (lev s k.toNat)) ∧ ∃ n, w' = w.drewN n := by
  rcases hk with rfl | rfl | rfl | rfl
  · exact unite1 s w hs
  · exact unite2 s w hs
  · exact unite4 s w hs
  · exact unite8 s w hs

theorem rnum_arg (b a : Nat) (s : ByteArray) (k : Int) (w : World) (hR : Rdr w b s a) (hk : ¬ Width k) :
    Calls Tryz.prog 17 #[.pointer (some ⟨b, 0, none⟩), .int .i64 k] w fun e w' => ∃ v, e = .returned (.tuple #[.int .i64 0, v]) ∧ Chained w' v [1] ∧ Below w.heap.size w w' := by
  have HW := Lib.hid (isWidth_no k w (fun h => hk (.inl h)) (fun h => hk (.inr (.inl h))) (fun h => hk (.inr (.inr (.inl h)))) (fun h => hk (.inr (.inr (.inr h)))))
  have HP := Lib.hid (rfault b a s 1 .nilIface [] w (by decide) hR rfl)
  clear hR hk
  go_enter Tryz.func17, Tryz.ntmps17
  go_wp2_with (first
    | (go_at_call 33; refine HW.out.mono ?_; rintro e w' ⟨rfl, rfl⟩)
    | (go_at_call 34; refine HP.out.mono ?_; rintro e w' ⟨v, rfl, hc, hb⟩))
  go_ret2
  exact ⟨v, rfl, hc, hb⟩

theorem rnum_short (b a : Nat) (s : ByteArray) (k : Int) (w : World) (hR : Rdr w b s a) (ha : a ≤ s.size) (hs : s.size ≤ 1000000000) (hk : Width k) (hl : ((s.size - a : Nat) : Int) < k) :
    Calls Tryz.prog 17 #[.pointer (some ⟨b, 0, none⟩), .int .i64 k] w fun e w' => ∃ v, e = .returned (.tuple #[.int .i64 0, v]) ∧ Chained w' v [10] ∧ Below w.heap.size w w' := by
  have HL := Lib.hid (left_any b a s w hR ha hs)
  have HR := Lib.hid hR
  clear hR ha hs
  generalize ((s.size - a : Nat) : Int) = d at hl HL
  go_enter Tryz.func17, Tryz.ntmps17
  go_wp2_with fail
  go_at_call 33
  refine (isWidth_yes _ _ hk).mono ?_
  rintro e w' ⟨rfl, rfl⟩
  go_wp2_with fail
  go_at_call 35
  refine HL.out.mono ?_
  rintro e w1 ⟨rfl, hw⟩
  have HW := Lib.hid (below_of_drew hw w.heap.size)
  clear hw
  go_wp2_with (go_at_call 34; refine (rfault b a s 10 _ [] _ (by decide) (HR.out.below HW.out) rfl).mono ?_; rintro e w' ⟨v, rfl, hc, hb⟩)
  go_ret2
  exact ⟨v, rfl, hc, HW.out.trans (hb.mono HW.out.size)⟩

theorem Rdr.stored {w w1 : World} {b a : Nat} {s : ByteArray} (hb : Below w.heap.size w w1) (h : Rdr w1 b s a) (c : Nat) :
    Rdr (w1.setCell ⟨b, 1, none⟩ (.int .i64 c)) b s c ∧ Fr b none w (w1.setCell ⟨b, 1, none⟩ (.int .i64 c)) := by
  obtain ⟨h0, h1, h2⟩ := h
  refine ⟨⟨?_, World.cell?_setCell_same _ _ _ h1, by rw [World.frozen?_setCell]; exact h2⟩, ⟨hb.os, hb.tape, hb.output, by simp [World.setCell]; exact hb.size, fun k hk hkb _ => ?_⟩⟩
  · rw [World.cell?_setCell_other _ _ _ _ (by simp)]; exact h0
  · rw [Below.heap_setCell _ _ _ _ (by simpa using hkb)]; exact hb.block k hk

set_option maxRecDepth 100000 in
theorem rnum_ok (b a : Nat) (s : ByteArray) (k : Int) (w : World) (hR : Rdr w b s a) (ha : a ≤ s.size) (hs : s.size ≤ 1000000000) (hk : Width k) (hl : k ≤ ((s.size - a : Nat) : Int)) (hv : lev (s.extract a s.size) k.toNat ≤ 9223372036854775807) (hv0 : 0 ≤ lev (s.extract a s.size) k.toNat) :
    Calls Tryz.prog 17 #[.pointer (some ⟨b, 0, none⟩), .int .i64 k] w fun e w' => e = .returned (.tuple #[.int .i64 (lev (s.extract a s.size) k.toNat), .nilIface]) ∧ Rdr w' b s (a + k.toNat) ∧ Fr b none w w' := by
  have HL := Lib.hid (left_any b a s w hR ha hs)
  have HR := Lib.hid hR
  have HU := Lib.hid (fun W => unite_any (s.extract a s.size) k W hk (by simp; omega))
  have hk0 : 0 ≤ k ∧ k ≤ 8 := by unfold Width at hk; omega
  have ha0 : (0 : Int) ≤ (a : Int) := Int.natCast_nonneg _
  have haI : (a : Int) ≤ (s.size : Int) := by omega
  have hld : (decide (((s.size - a : Nat) : Int) < k)) = false := by simp only [decide_eq_false_iff_not]; omega
  have hge : decide ((9223372036854775808 : Int) ≤ lev (s.extract a s.size) k.toNat) = false := by simp only [decide_eq_false_iff_not]; omega
  have hcv : IntKind.i64.wrap (lev (s.extract a s.size) k.toNat) = lev (s.extract a s.size) k.toNat := IntWalk.i64_in _ (by omega)
  have hadd : (a : Int) + k ≤ 2000000000 := by omega
  clear hR hl
  generalize lev (s.extract a s.size) k.toNat = V at HU hv hv0 hge hcv ⊢
  clear hv hv0
  generalize ((s.size - a : Nat) : Int) = d at hld HL
  go_enter Tryz.func17, Tryz.ntmps17
  go_wp2_with fail
  go_at_call 33
  refine (isWidth_yes _ _ hk).mono ?_
  rintro e w' ⟨rfl, rfl⟩
  go_wp2_with fail
  go_at_call 35
  refine HL.out.mono ?_
  rintro e w1 ⟨rfl, hw⟩
  have HW := Lib.hid (below_of_drew hw w.heap.size)
  obtain ⟨h0, h1, h2⟩ := HR.out.below HW.out
  clear hw
  go_wp2_with fail
  go_quiet ((go_at_call 36; exact Calls.quiet_of (HU.out _)))
  go_wp2
  go_ret2
  have ek : (a : Int) + k = ((a + k.toNat : Nat) : Int) := by omega
  rw [ek]
  exact ⟨rfl, Rdr.stored (below_drewN HW.out nq) ⟨h0, h1, h2⟩ _⟩

set_option maxRecDepth 100000 in
theorem rnum_long (b a : Nat) (s : ByteArray) (k : Int) (w : World) (hR : Rdr w b s a) (ha : a ≤ s.size) (hs : s.size ≤ 1000000000) (hk : Width k) (hl : k ≤ ((s.size - a : Nat) : Int)) (hv : 9223372036854775807 < lev (s.extract a s.size) k.toNat) :
    Calls Tryz.prog 17 #[.pointer (some ⟨b, 0, none⟩), .int .i64 k] w fun e w' => ∃ v, e = .returned (.tuple #[.int .i64 0, v]) ∧ Chained w' v [11] ∧ Below w.heap.size w w' := by
  have HL := Lib.hid (left_any b a s w hR ha hs)
  have HR := Lib.hid hR
  have HU := Lib.hid (fun W => unite_any (s.extract a s.size) k W hk (by simp; omega))
  have ha0 : (0 : Int) ≤ (a : Int) := Int.natCast_nonneg _
  have haI : (a : Int) ≤ (s.size : Int) := by omega
  have hld : (decide (((s.size - a : Nat) : Int) < k)) = false := by simp only [decide_eq_false_iff_not]; omega
  have hge : decide ((9223372036854775808 : Int) ≤ lev (s.extract a s.size) k.toNat) = true := by simp only [decide_eq_true_eq]; omega
  clear hR hl hv
  generalize lev (s.extract a s.size) k.toNat = V at HU hge
  generalize ((s.size - a : Nat) : Int) = d at hld HL
  go_enter Tryz.func17, Tryz.ntmps17
  go_wp2_with fail
  go_at_call 33
  refine (isWidth_yes _ _ hk).mono ?_
  rintro e w' ⟨rfl, rfl⟩
  go_wp2_with fail
  go_at_call 35
  refine HL.out.mono ?_
  rintro e w1 ⟨rfl, hw⟩
  have HW := Lib.hid (below_of_drew hw w.heap.size)
  obtain ⟨h0, h1, h2⟩ := HR.out.below HW.out
  clear hw
  go_wp2_with fail
  go_quiet ((go_at_call 36; exact Calls.quiet_of (HU.out _)))
  go_wp2_with (go_at_call 34; refine (rfault b a s 11 _ [] _ (by decide) (Rdr.below (below_drewN (Below.refl _ _) _) (HR.out.below HW.out)) rfl).mono ?_; rintro e w' ⟨v, rfl, hc, hb⟩)
  go_ret2
  exact ⟨v, rfl, hc, (below_drewN HW.out nq).trans (hb.mono HW.out.size)⟩
end Go.Proofs.YthjinpbclfankaaGreatDoor
