/-
  The reader of package field, by contracts: left, fault, NewReader, At, End.
-/
import Derived.Test.YthjinpbclfankaaGreatDoorUnite
import Derived.WalkSmall
namespace Go.Proofs.YthjinpbclfankaaGreatDoor
open Go.RowKit Go.Extern.Stop Go.Stop Go.Extern Go.PlainAid Go.Lib

/-- A reader in block b: its bytes s; it stands at a. -/
def Rdr (w : World) (b : Nat) (s : ByteArray) (a : Nat) : Prop :=
  w.cell? ⟨b, 0, none⟩ = some (.string s) ∧ w.cell? ⟨b, 1, none⟩ = some (.int .i64 a) ∧ w.frozen? ⟨b, 1, none⟩ = false

theorem Rdr.lt {w : World} {b a : Nat} {s : ByteArray} (h : Rdr w b s a) : b < w.heap.size := cell_lt h.1
theorem Rdr.belowB {w w' : World} {B : Nat} (hb : Below B w w') {b a : Nat} {s : ByteArray} (hB : b < B) (h : Rdr w b s a) : Rdr w' b s a :=
  ⟨by rw [hb.cell (p := ⟨b, 0, none⟩) hB]; exact h.1, by rw [hb.cell (p := ⟨b, 1, none⟩) hB]; exact h.2.1, by rw [hb.frozen (p := ⟨b, 1, none⟩) hB]; exact h.2.2⟩
theorem Rdr.below {w w' : World} (hb : Below w.heap.size w w') {b a : Nat} {s : ByteArray} (h : Rdr w b s a) : Rdr w' b s a := h.belowB hb h.lt

theorem below_of_drew {w w' : World} (h : ∃ n, w' = w.drewN n) (B : Nat) : Below B w w' := by
  obtain ⟨n, rfl⟩ := h; exact below_drewN (Below.refl _ _) n

theorem newReader (s : ByteArray) (w : World) :
    Calls Tryz.prog 15 #[.string s] w fun e w' => e = .returned (.pointer (some ⟨w.heap.size, 0, none⟩)) ∧ Rdr w' w.heap.size s 0 ∧ Below w.heap.size w w' ∧ w.heap.size < w'.heap.size := by
  go_enter Tryz.func15, Tryz.ntmps15
  go_wp2
  go_ret
  exact ⟨rfl, ⟨by simp, by simp, by simp⟩, by go_grown, by simp⟩

theorem left_any (b a : Nat) (s : ByteArray) (w : World) (hR : Rdr w b s a) (ha : a ≤ s.size) (hs : s.size ≤ 1000000000) :
    Calls Tryz.prog 35 #[.pointer (some ⟨b, 0, none⟩)] w fun e w' => e = .returned (.int .i64 ((s.size - a : Nat) : Int)) ∧ ∃ n, w' = w.drewN n := by
  obtain ⟨h0, h1, h2⟩ := hR
  have e1 : IntKind.i64.wrap ((s.size : Int) - (a : Int)) = ((s.size - a : Nat) : Int) := by rw [IntWalk.i64_in _ (by omega)]; omega
  go_enter Tryz.func35, Tryz.ntmps35
  go_wp2
  go_quiet (fail)
  go_wp2
  go_ret
  refine ⟨ret_int ?_, _, rfl⟩
  first | exact e1 | omega

theorem rfault (b a : Nat) (s : ByteArray) (E : Int) (u : Value) (es : List Int) (w : World) (hE : E ≠ 0) (hR : Rdr w b s a) (hu : Chained w u es) :
    Calls Tryz.prog 34 #[.pointer (some ⟨b, 0, none⟩), .int .i64 E, u] w fun e w' => ∃ v, e = .returned v ∧ Chained w' v (E :: es) ∧ Below w.heap.size w w' := by
  obtain ⟨h0, h1, h2⟩ := hR
  have HP := Lib.hid (fun at_ => wrap_new E at_ u es w hE hu)
  clear hu h0 h2
  go_enter Tryz.func34, Tryz.ntmps34
  go_wp2_with (go_at_call 51; refine (HP.out _).mono ?_; rintro e w' ⟨v, rfl, hP⟩)
  go_ret
  exact ⟨v, rfl, hP⟩

theorem end_ok (b : Nat) (s : ByteArray) (w : World) (hR : Rdr w b s s.size) (hs : s.size ≤ 1000000000) :
    Calls Tryz.prog 18 #[.pointer (some ⟨b, 0, none⟩)] w fun e w' => e = .returned .nilIface ∧ Below w.heap.size w w' := by
  have HL := Lib.hid (left_any b s.size s w hR (Nat.le_refl _) hs)
  clear hR
  go_enter Tryz.func18, Tryz.ntmps18
  go_wp2_with fail
  go_at_call 35
  refine HL.out.mono ?_
  rintro e w1 ⟨rfl, hw⟩
  have HW := Lib.hid (below_of_drew hw w.heap.size)
  clear hw
  simp only [Nat.sub_self]
  go_wp2
  go_ret
  exact ⟨rfl, HW.out⟩

theorem end_bad (b a : Nat) (s : ByteArray) (w : World) (hR : Rdr w b s a) (ha : a < s.size) (hs : s.size ≤ 1000000000) :
    Calls Tryz.prog 18 #[.pointer (some ⟨b, 0, none⟩)] w fun e w' => ∃ v, e = .returned v ∧ Chained w' v [11] ∧ Below w.heap.size w w' := by
  have HL := Lib.hid (left_any b a s w hR (by omega) hs)
  have HR := Lib.hid hR
  have hpos : (0 : Int) < ((s.size - a : Nat) : Int) := by omega
  clear hR
  go_enter Tryz.func18, Tryz.ntmps18
  go_wp2_with fail
  go_at_call 35
  refine HL.out.mono ?_
  rintro e w1 ⟨rfl, hw⟩
  have HW := Lib.hid (below_of_drew hw w.heap.size)
  clear hw
  generalize (((s.size - a : Nat)) : Int) = d at hpos ⊢
  go_wp2_with (go_at_call 34; refine (rfault b a s 11 _ [] _ (by decide) (HR.out.below HW.out) rfl).mono ?_; rintro e w' ⟨v, rfl, hc, hb⟩)
  go_ret
  exact ⟨v, rfl, hc, HW.out.trans (hb.mono HW.out.size)⟩
end Go.Proofs.YthjinpbclfankaaGreatDoor
