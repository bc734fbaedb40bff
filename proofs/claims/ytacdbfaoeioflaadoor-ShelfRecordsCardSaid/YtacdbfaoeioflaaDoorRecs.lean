/-
  ShelfRecords, walked: it answers true, and nothing that was there turns.
-/
import Derived.Test.YtacdbfaoeioflaaDoorShown
import Derived.Test.YtacdbfaoeioflaaDoorRparse
namespace Go.Proofs.YtacdbfaoeioflaaDoor
open Go.RowKit Go.PlainAid Go.Lib

theorem parse_rec (b : Bk) (m : Int) : (parseI (recV b m) = true ↔ refE b m = 0 ∧ m = 1) ∧ (parseI (recV b m) = true → parseB (recV b m) = b) := by
  by_cases h : refE b m = 0
  · rw [recV_yes h]
    obtain ⟨h1, h2, h3, h4, h5, h6⟩ := (refE_zero.1 h).1
    have hm : m = 0 ∨ m = 1 := by omega
    rcases hm with rfl | rfl
    · have hp : pfx (recB b 0) = false := by
        unfold pfx
        rw [decide_eq_false_iff_not, (rec_split b 0).1]
        decide
      obtain ⟨-, h7⟩ := parseB_none (parse_nopfx hp)
      rw [h7]
      simp
    · obtain ⟨h7, h8⟩ := parseB_some (parse_of h rfl)
      exact ⟨⟨fun _ => ⟨h, rfl⟩, fun _ => h8⟩, fun _ => h7⟩
  · rw [recV_no h]
    obtain ⟨-, h7⟩ := parseB_none (rparse_size (s := ⟨#[]⟩) (by decide))
    rw [h7]
    simp [h]
theorem recV_small (b : Bk) (m : Int) : (recV b m).size ≤ 32 := by
  by_cases h : refE b m = 0
  · rw [recV_yes h, recB_size (refE_zero.1 h).2 m]; omega
  · rw [recV_no h]; exact Nat.zero_le _

set_option maxRecDepth 100000 in
set_option maxHeartbeats 1000000 in
theorem records_in (b : Bk) (m : Int) (s : ByteArray) (w : World) (hT : Tab w) (hd : b.data.size ≤ 1024) (hs : s.size ≤ 1024) :
    Calls Tryd.prog 3 #[b.val, .int .i64 m, .string s] w fun e w' => e = .returned (.bool true) ∧ Below w.heap.size w w' := by
  obtain ⟨hp1, hp2⟩ := parse_rec b m
  have hsm := recV_small b m
  obtain ⟨t, ht⟩ : ∃ t, recV b m = t := ⟨_, rfl⟩
  obtain ⟨r, hr⟩ : ∃ r, refE b m = r := ⟨_, rfl⟩
  have HA := Lib.hid (fun w T => ht ▸ hr ▸ record_any b m w T (by omega))
  have HB := Lib.hid (fun w => ht ▸ hr ▸ rrec_any b m w)
  have HC := Lib.hid (fun w T => parse_any s w T (by omega))
  have HD := Lib.hid (fun w => rparse_any s w)
  have HE := Lib.hid (fun w T => parse_any t w T (by rw [← ht]; omega))
  rw [ht, hr] at hp1
  rw [ht] at hp2
  obtain ⟨x, hx⟩ : ∃ x, parseB s = x := ⟨_, rfl⟩
  obtain ⟨is, hi⟩ : ∃ x, parseI s = x := ⟨_, rfl⟩
  obtain ⟨z, hz⟩ : ∃ x, parseB t = x := ⟨_, rfl⟩
  obtain ⟨bk, hbk⟩ : ∃ x, parseI t = x := ⟨_, rfl⟩
  rw [hx, hi] at HC HD
  rw [hz, hbk] at HE
  rw [hbk] at hp1 hp2
  rw [hz] at hp2
  clear ht hr hx hi hz hbk hsm
  have HS := Lib.hid (fun w T => shown_any (w := w) T)
  have hb0 : Below w.heap.size w (w.alloc (.cells b.cells 23)) := (Below.refl _ _).alloc (Nat.le_refl _) _
  have A0 := Lib.hid (AB.fresh w b)
  have T0 := Lib.hid (hT.below hb0)
  have B0 := Lib.hid hb0
  clear hb0 hT
  have hdI : ¬ (1024 : Int) < (b.data.size : Int) := by omega
  have hsI : ¬ (1024 : Int) < (s.size : Int) := by omega
  have P1 := Lib.hid hp1
  have P2 := Lib.hid hp2
  clear hp1 hp2
  obtain ⟨d0, d1, d2⟩ := A0.out.all
  go_enter Tryd.func3, Tryd.ntmps3
  go_wp2_with fail
  generalize w.alloc (.cells #[.int .i64 b.id, .int .i64 b.ver, .string b.data] 23) = w0 at *
  go_at_call 5
  refine (HA.out w0 T0.out).mono ?_
  rintro e w1 ⟨rfl, k⟩
  have A1 := Lib.hid (A0.out.below k)
  have T1 := Lib.hid (T0.out.below k)
  have B1 := Lib.hid (B0.out.trans (k.mono B0.out.size))
  clear k d0 d1 d2 A0 T0 B0
  obtain ⟨d0, d1, d2⟩ := A1.out.all
  go_wp2_with fail
  go_at_call 6
  refine (HB.out w1).mono ?_
  rintro e w2 ⟨rfl, k⟩
  have A2 := Lib.hid (A1.out.below k)
  have T2 := Lib.hid (T1.out.below k)
  have B2 := Lib.hid (B1.out.trans (k.mono B1.out.size))
  clear k d0 d1 d2 A1 T1 B1
  obtain ⟨d0, d1, d2⟩ := A2.out.all
  go_wp2_with fail
  go_at_call 7
  refine (HC.out w2 T2.out).mono ?_
  rintro e w3 ⟨rfl, k⟩
  have kx : Below w3.heap.size w3 (w3.alloc (.cells x.cells 23)) := (Below.refl _ _).alloc (Nat.le_refl _) _
  have A3 := Lib.hid ((A2.out.below k).below kx)
  have T3 := Lib.hid ((T2.out.below k).below kx)
  have B3 := Lib.hid ((B2.out.trans (k.mono B2.out.size)).trans (kx.mono (B2.out.trans (k.mono B2.out.size)).size))
  have X3 := Lib.hid (AB.fresh w3 x)
  clear k kx d0 d1 d2 A2 T2 B2
  obtain ⟨d0, d1, d2⟩ := A3.out.all
  obtain ⟨x0, x1, x2⟩ := X3.out.all
  go_wp2_with fail
  generalize w3.alloc (.cells #[.int .i64 x.id, .int .i64 x.ver, .string x.data] 23) = w4 at *
  go_at_call 8
  refine (HD.out w4).mono ?_
  rintro e w5 ⟨rfl, k⟩
  have kx : Below w5.heap.size w5 (w5.alloc (.cells x.cells 23)) := (Below.refl _ _).alloc (Nat.le_refl _) _
  have A5 := Lib.hid ((A3.out.below k).below kx)
  have T5 := Lib.hid ((T3.out.below k).below kx)
  have B5 := Lib.hid ((B3.out.trans (k.mono B3.out.size)).trans (kx.mono (B3.out.trans (k.mono B3.out.size)).size))
  have X5 := Lib.hid ((X3.out.below k).below kx)
  have Y5 := Lib.hid (AB.fresh w5 x)
  clear k kx d0 d1 d2 x0 x1 x2 A3 T3 B3 X3
  obtain ⟨d0, d1, d2⟩ := A5.out.all
  obtain ⟨x0, x1, x2⟩ := X5.out.all
  obtain ⟨y0, y1, y2⟩ := Y5.out.all
  have hne := bk_neq x x
  rw [decide_eq_true rfl] at hne
  go_wp2_with fail
  generalize w5.alloc (.cells #[.int .i64 x.id, .int .i64 x.ver, .string x.data] 23) = w6 at *
  go_at_call 7
  refine (HE.out w6 T5.out).mono ?_
  rintro e w7 ⟨rfl, k⟩
  have kx : Below w7.heap.size w7 (w7.alloc (.cells z.cells 23)) := (Below.refl _ _).alloc (Nat.le_refl _) _
  have A7 := Lib.hid ((A5.out.below k).below kx)
  have T7 := Lib.hid ((T5.out.below k).below kx)
  have B7 := Lib.hid ((B5.out.trans (k.mono B5.out.size)).trans (kx.mono (B5.out.trans (k.mono B5.out.size)).size))
  have Z7 := Lib.hid (AB.fresh w7 z)
  clear k kx d0 d1 d2 x0 x1 x2 y0 y1 y2 A5 T5 B5 X5 Y5 hne
  obtain ⟨d0, d1, d2⟩ := A7.out.all
  obtain ⟨z0, z1, z2⟩ := Z7.out.all
  cases bk
  · have hno : ¬ (r = 0 ∧ m = 1) := fun h => by cases P1.out.2 h
    by_cases hr : r = 0
    · have hm : (m == 1) = false := beq_eq_false_iff_ne.2 fun h => hno ⟨hr, h⟩
      clear hno
      go_wp2_with fail
      generalize w7.alloc (.cells #[.int .i64 z.id, .int .i64 z.ver, .string z.data] 23) = w8 at *
      go_at_call 9
      refine (HS.out w8 T7.out).mono ?_
      rintro e w9 ⟨rfl, k⟩
      have B9 := Lib.hid (B7.out.trans (k.mono B7.out.size))
      clear k d0 d1 d2 z0 z1 z2 A7 T7 B7
      go_wp2
      go_ret
      exact ⟨rfl, B9.out⟩
    · clear hno
      go_wp2_with fail
      generalize w7.alloc (.cells #[.int .i64 z.id, .int .i64 z.ver, .string z.data] 23) = w8 at *
      go_at_call 9
      refine (HS.out w8 T7.out).mono ?_
      rintro e w9 ⟨rfl, k⟩
      have B9 := Lib.hid (B7.out.trans (k.mono B7.out.size))
      clear k d0 d1 d2 z0 z1 z2 A7 T7 B7
      go_wp2
      go_ret
      exact ⟨rfl, B9.out⟩
  · obtain ⟨rfl, hm1⟩ := P1.out.1 rfl
    obtain rfl := P2.out rfl
    have hm : (m == 1) = true := beq_iff_eq.2 hm1
    have heq := bk_same z
    clear hm1 P1 P2
    go_wp2_with fail
    generalize w7.alloc (.cells #[.int .i64 z.id, .int .i64 z.ver, .string z.data] 23) = w8 at *
    go_at_call 9
    refine (HS.out w8 T7.out).mono ?_
    rintro e w9 ⟨rfl, k⟩
    have B9 := Lib.hid (B7.out.trans (k.mono B7.out.size))
    clear k d0 d1 d2 z0 z1 z2 A7 T7 B7
    go_wp2
    go_ret
    exact ⟨rfl, B9.out⟩
set_option maxRecDepth 100000 in
theorem records_out (b : Bk) (m : Int) (s : ByteArray) (w : World) (h : 1024 < b.data.size ∨ 1024 < s.size) :
    Calls Tryd.prog 3 #[b.val, .int .i64 m, .string s] w fun e w' => e = .returned (.bool true) ∧ Below w.heap.size w w' := by
  have B0 := Lib.hid (show Below w.heap.size w (w.alloc (.cells b.cells 23)) from (Below.refl _ _).alloc (Nat.le_refl _) _)
  have A0 := Lib.hid (AB.fresh w b)
  obtain ⟨d0, d1, d2⟩ := A0.out.all
  by_cases hd : 1024 < b.data.size
  · have hdI : (1024 : Int) < (b.data.size : Int) := by omega
    clear h hd
    go_enter Tryd.func3, Tryd.ntmps3
    go_wp2
    go_ret
    exact ⟨rfl, B0.out⟩
  · have hs := h.resolve_left hd
    have hdI : ¬ (1024 : Int) < (b.data.size : Int) := by omega
    have hsI : (1024 : Int) < (s.size : Int) := by omega
    clear h hd hs
    go_enter Tryd.func3, Tryd.ntmps3
    go_wp2
    go_ret
    exact ⟨rfl, B0.out⟩
theorem shelfRecords_any (b : Bk) (m : Int) (s : ByteArray) (w : World) (hT : Tab w) :
    Calls Tryd.prog 3 #[b.val, .int .i64 m, .string s] w fun e w' => e = .returned (.bool true) ∧ Below w.heap.size w w' := by
  by_cases h : 1024 < b.data.size ∨ 1024 < s.size
  · exact records_out b m s w h
  · exact records_in b m s w hT (by omega) (by omega)
end Go.Proofs.YtacdbfaoeioflaaDoor
