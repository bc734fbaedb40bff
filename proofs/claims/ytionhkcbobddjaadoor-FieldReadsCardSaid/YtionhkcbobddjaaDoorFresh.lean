/-
  The reader's errors lie in new memory.
-/
import Derived.Test.YtionhkcbobddjaaDoorRrtext
namespace Go.Proofs.YtionhkcbobddjaaDoor
open Go.RowKit Go.Extern.Stop Go.Stop Go.Extern Go.PlainAid Go.Lib

/-- The error v is a pointer into a block from lo on. -/
def Fresh (lo : Nat) (v : Value) : Prop := ∃ t b o, v = .iface t (.pointer (some ⟨b, o, none⟩)) ∧ lo ≤ b
theorem Fresh.mono {lo lo' : Nat} {v : Value} (h : Fresh lo v) (hl : lo' ≤ lo) : Fresh lo' v := by
  obtain ⟨t, b, o, hv, hb⟩ := h
  exact ⟨t, b, o, hv, Nat.le_trans hl hb⟩
theorem Chained.fr {w w' : World} {v : Value} {e : Int} {lo c : Nat} (h : Chained w v [e]) (hf : Fr c none w w') (hv : Fresh lo v) (hc : c < lo) : Chained w' v [e] := by
  obtain ⟨b, o, u, rfl, h0, h2, hu⟩ := h
  obtain ⟨t, b', o', he, hb⟩ := hv
  injection he with _ he
  injection he with he
  injection he with he
  injection he with e1 e2
  subst e1
  have hl := cell_lt h0
  have hblk := hf.block b hl (by omega) (by simp)
  exact ⟨b, o, u, rfl, by rw [World.cell?_of_block (w := w) (a := ⟨b, o, none⟩) hblk]; exact h0, by rw [World.cell?_of_block (w := w) (a := ⟨b, o + 2, none⟩) hblk]; exact h2, hu⟩
/-- Wrap, and where the new Fault lies. -/
theorem wrap_new' (E at_ : Int) (u : Value) (es : List Int) (w : World) (hE : E ≠ 0) (hu : Chained w u es) :
    Calls Tryd.prog 39 #[.int .i64 E, .int .i64 at_, u] w fun e w' => ∃ v, e = .returned v ∧ Chained w' v (E :: es) ∧ Below w.heap.size w w' ∧ Fresh w.heap.size v := by
  have hE' : (E == 0) = false := by simpa using hE
  have done : ∀ x, (∃ t y, x = Value.iface t y) ∨ x = .nilIface → Chained w x es → Calls Tryd.prog 39 #[.int .i64 E, .int .i64 at_, x] w fun e w' => ∃ v, e = .returned v ∧ Chained w' v (E :: es) ∧ Below w.heap.size w w' ∧ Fresh w.heap.size v := by
    intro x hx hu
    have hb : Below w.heap.size w (w.alloc (.cells #[.int .i64 E, .int .i64 at_, x] 92)) := (Below.refl _ _).alloc (Nat.le_refl _) _
    have HU := Lib.hid (hu.below hb)
    have HB := Lib.hid hb
    clear hu hb
    rcases hx with ⟨t, y, rfl⟩ | rfl
    all_goals
      go_enter Tryd.func39, Tryd.ntmps39
      go_wp2
      go_ret
      exact ⟨_, rfl, ⟨w.heap.size, 0, _, rfl, by simp, by simp, HU.out⟩, HB.out, ⟨_, _, _, rfl, Nat.le_refl _⟩⟩
  cases es with
  | nil => exact done u (.inr hu) hu
  | cons e es => exact done u (by obtain ⟨b, o, y, rfl, _⟩ := hu; exact .inl ⟨_, _, rfl⟩) hu
theorem rfault' (b a : Nat) (s : ByteArray) (E : Int) (u : Value) (es : List Int) (w : World) (hE : E ≠ 0) (hR : Rdr w b s a) (hu : Chained w u es) :
    Calls Tryd.prog 35 #[.pointer (some ⟨b, 0, none⟩), .int .i64 E, u] w fun e w' => ∃ v, e = .returned v ∧ Chained w' v (E :: es) ∧ Below w.heap.size w w' ∧ Fresh w.heap.size v := by
  obtain ⟨h0, h1, h2⟩ := hR
  have HP := Lib.hid (fun at_ => wrap_new' E at_ u es w hE hu)
  clear hu h0 h2
  go_enter Tryd.func35, Tryd.ntmps35
  go_wp2_with (go_at_call 39; refine (HP.out _).mono ?_; rintro e w' ⟨v, rfl, hP⟩)
  go_ret
  exact ⟨v, rfl, hP⟩
set_option maxRecDepth 100000 in
theorem rtext_long' (b a : Nat) (s : ByteArray) (w : World) (hR : Rdr w b s a) (ha : a ≤ s.size) (hs : s.size ≤ 1000000000) (hl : 2 ≤ s.size - a) (hL : 1024 < lev (s.extract a s.size) 2) :
    Calls Tryd.prog 22 #[.pointer (some ⟨b, 0, none⟩)] w fun e w' => ∃ v, e = .returned (.tuple #[.string ⟨#[]⟩, v]) ∧ Chained w' v [11] ∧ Below w.heap.size w w' ∧ Fresh w.heap.size v := by
  have HR := Lib.hid hR
  have hbl := hR.lt
  have hb2 := lev2_bounds (s.extract a s.size)
  have hlI : (2 : Int) ≤ ((s.size - a : Nat) : Int) := by omega
  have HL := Lib.hid hlI
  have HN := Lib.hid (fun W hW => rnum_ok w.heap.size a s 2 W hW ha hs width2 HL.out (by show lev (s.extract a s.size) 2 ≤ _; omega) (by show 0 ≤ lev (s.extract a s.size) 2; omega))
  obtain ⟨h0, h1, h2⟩ := hR
  clear hlI hl
  have HN' := Lib.hid (show ∀ W, Rdr W w.heap.size s a → Calls Tryd.prog 20 #[.pointer (some ⟨w.heap.size, 0, none⟩), .int .i64 2] W fun e w' => e = .returned (.tuple #[.int .i64 (lev (s.extract a s.size) 2), .nilIface]) ∧ Rdr w' w.heap.size s (a + 2) ∧ Fr w.heap.size none W w' from fun W hW => HN.out W hW)
  clear HN hb2
  generalize lev (s.extract a s.size) 2 = L at hL HN'
  go_enter Tryd.func22, Tryd.ntmps22
  go_wp2_with fail
  go_at_call 20
  refine (HN'.out _ ⟨by simp, by simp, by simp⟩).mono ?_
  rintro e w1 ⟨rfl, hr1, hf1⟩
  have HB := Lib.hid (show Below w.heap.size w w1 from ((Below.refl _ _).alloc (Nat.le_refl _) _).trans (hf1.below (by simp) (fun g hg => by cases hg)))
  clear hr1 hf1 h0 h1 h2
  go_wp2_with (go_at_call 35; refine (rfault' b a s 11 _ [] _ (by decide) (HR.out.below HB.out) rfl).mono ?_; rintro e w' ⟨v, rfl, hc, hb, hfv⟩)
  go_ret2
  exact ⟨v, rfl, hc, HB.out.trans (hb.mono HB.out.size), hfv.mono HB.out.size⟩
set_option maxRecDepth 100000 in
theorem rtext_short' (b a : Nat) (s : ByteArray) (w : World) (hR : Rdr w b s a) (ha : a ≤ s.size) (hs : s.size ≤ 1000000000) (hl : 2 ≤ s.size - a) (hL : lev (s.extract a s.size) 2 ≤ 1024) (hf : ((s.size - (a + 2) : Nat) : Int) < lev (s.extract a s.size) 2) :
    Calls Tryd.prog 22 #[.pointer (some ⟨b, 0, none⟩)] w fun e w' => ∃ v, e = .returned (.tuple #[.string ⟨#[]⟩, v]) ∧ Chained w' v [10] ∧ Below w.heap.size w w' ∧ Fresh w.heap.size v := by
  have HR := Lib.hid hR
  have hbl := hR.lt
  have hb2 := lev2_bounds (s.extract a s.size)
  have hlI : (2 : Int) ≤ ((s.size - a : Nat) : Int) := by omega
  have HL := Lib.hid hlI
  have HN := Lib.hid (fun W hW => rnum_ok w.heap.size a s 2 W hW ha hs width2 HL.out (by show lev (s.extract a s.size) 2 ≤ _; omega) (by show 0 ≤ lev (s.extract a s.size) 2; omega))
  have HLf := Lib.hid (fun W hW => left_any w.heap.size (a + 2) s W hW (by omega) hs)
  obtain ⟨h0, h1, h2⟩ := hR
  clear hlI hl
  have HN' := Lib.hid (show ∀ W, Rdr W w.heap.size s a → Calls Tryd.prog 20 #[.pointer (some ⟨w.heap.size, 0, none⟩), .int .i64 2] W fun e w' => e = .returned (.tuple #[.int .i64 (lev (s.extract a s.size) 2), .nilIface]) ∧ Rdr w' w.heap.size s (a + 2) ∧ Fr w.heap.size none W w' from fun W hW => HN.out W hW)
  clear HN hb2
  generalize lev (s.extract a s.size) 2 = L at hL HN' hf
  generalize ((s.size - (a + 2) : Nat) : Int) = d at hf HLf
  go_enter Tryd.func22, Tryd.ntmps22
  go_wp2_with fail
  go_at_call 20
  refine (HN'.out _ ⟨by simp, by simp, by simp⟩).mono ?_
  rintro e w1 ⟨rfl, hr1, hf1⟩
  have HB := Lib.hid (show Below w.heap.size w w1 from ((Below.refl _ _).alloc (Nat.le_refl _) _).trans (hf1.below (by simp) (fun g hg => by cases hg)))
  have HR1 := Lib.hid hr1
  clear hr1 hf1 h0 h1 h2
  go_wp2_with fail
  go_at_call 36
  refine (HLf.out _ HR1.out).mono ?_
  rintro e w2 ⟨rfl, hw⟩
  have HB2 := Lib.hid (HB.out.trans (below_of_drew hw w.heap.size))
  clear hw
  go_wp2_with (go_at_call 35; refine (rfault' b a s 10 _ [] _ (by decide) (HR.out.below HB2.out) rfl).mono ?_; rintro e w' ⟨v, rfl, hc, hb, hfv⟩)
  go_ret2
  exact ⟨v, rfl, hc, HB2.out.trans (hb.mono HB2.out.size), hfv.mono HB2.out.size⟩
end Go.Proofs.YtionhkcbobddjaaDoor
