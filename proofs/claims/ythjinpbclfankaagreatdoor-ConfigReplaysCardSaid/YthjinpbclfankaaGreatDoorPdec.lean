/-
  Decode (package config), by a contract: nine bytes are an order, others none.
-/
import Derived.Test.YthjinpbclfankaaGreatDoorPenc
import Derived.Test.YthjinpbclfankaaGreatDoorRrnum
import Derived.Test.YthjinpbclfankaaGreatDoorPc7
namespace Go.Proofs.YthjinpbclfankaaGreatDoor
open Go.RowKit

def pv (s : ByteArray) (i j : Nat) : Int := if j < i then numD s j else 0
/-- What has been read so far. -/
def part5 (s : ByteArray) (i : Nat) : Od := ⟨pv s i 0, pv s i 1, pv s i 2, pv s i 3, pv s i 4⟩
theorem part5_zero (s : ByteArray) : part5 s 0 = odz := by simp [part5, pv, odz]
theorem part5_all (s : ByteArray) : part5 s 5 = decV s := by simp [part5, pv, decV]
theorem OB.put {T : TypeId} {w : World} {b : Nat} {s : ByteArray} {i : Nat} (h : OB T w b (part5 s i)) (hi : i < 5) : OB T (w.setCell ⟨b, i, none⟩ (.int .i64 (numD s i))) b (part5 s (i + 1)) := by
  have e := heap_setCell_same w b i _ _ (.int .i64 (numD s i)) h
  rcases (show i = 0 ∨ i = 1 ∨ i = 2 ∨ i = 3 ∨ i = 4 by omega) with rfl | rfl | rfl | rfl | rfl <;> exact e
set_option maxHeartbeats 4000000 in
theorem store5 {w : World} {g : Nat} {o : Od} {T : TypeId} (h : OB T w g o) (a b c d f : Int) :
    OB T (((((w.setCell ⟨g, 0, none⟩ (.int .i64 a)).setCell ⟨g, 1, none⟩ (.int .i64 b)).setCell ⟨g, 2, none⟩ (.int .i64 c)).setCell ⟨g, 3, none⟩ (.int .i64 d)).setCell ⟨g, 4, none⟩ (.int .i64 f)) g ⟨a, b, c, d, f⟩ ∧ w.grownBy (((((w.setCell ⟨g, 0, none⟩ (.int .i64 a)).setCell ⟨g, 1, none⟩ (.int .i64 b)).setCell ⟨g, 2, none⟩ (.int .i64 c)).setCell ⟨g, 3, none⟩ (.int .i64 d)).setCell ⟨g, 4, none⟩ (.int .i64 f)) (some g) := by
  obtain ⟨k, n, m, x, y⟩ := o
  have h0 : w.heap[g]? = some (.cells #[.int .i64 k, .int .i64 n, .int .i64 m, .int .i64 x, .int .i64 y] T (0, 0)) := h
  clear h
  have h1 : (w.setCell ⟨g, 0, none⟩ (.int .i64 a)).heap[g]? = some (.cells #[.int .i64 a, .int .i64 n, .int .i64 m, .int .i64 x, .int .i64 y] T (0, 0)) := heap_setCell_same w g 0 _ _ (.int .i64 a) h0
  have h2 : ((w.setCell ⟨g, 0, none⟩ (.int .i64 a)).setCell ⟨g, 1, none⟩ (.int .i64 b)).heap[g]? = some (.cells #[.int .i64 a, .int .i64 b, .int .i64 m, .int .i64 x, .int .i64 y] T (0, 0)) := heap_setCell_same (w.setCell ⟨g, 0, none⟩ (.int .i64 a)) g 1 _ _ (.int .i64 b) h1
  have h3 : (((w.setCell ⟨g, 0, none⟩ (.int .i64 a)).setCell ⟨g, 1, none⟩ (.int .i64 b)).setCell ⟨g, 2, none⟩ (.int .i64 c)).heap[g]? = some (.cells #[.int .i64 a, .int .i64 b, .int .i64 c, .int .i64 x, .int .i64 y] T (0, 0)) := heap_setCell_same ((w.setCell ⟨g, 0, none⟩ (.int .i64 a)).setCell ⟨g, 1, none⟩ (.int .i64 b)) g 2 _ _ (.int .i64 c) h2
  have h4 : ((((w.setCell ⟨g, 0, none⟩ (.int .i64 a)).setCell ⟨g, 1, none⟩ (.int .i64 b)).setCell ⟨g, 2, none⟩ (.int .i64 c)).setCell ⟨g, 3, none⟩ (.int .i64 d)).heap[g]? = some (.cells #[.int .i64 a, .int .i64 b, .int .i64 c, .int .i64 d, .int .i64 y] T (0, 0)) := heap_setCell_same (((w.setCell ⟨g, 0, none⟩ (.int .i64 a)).setCell ⟨g, 1, none⟩ (.int .i64 b)).setCell ⟨g, 2, none⟩ (.int .i64 c)) g 3 _ _ (.int .i64 d) h3
  have h5 : (((((w.setCell ⟨g, 0, none⟩ (.int .i64 a)).setCell ⟨g, 1, none⟩ (.int .i64 b)).setCell ⟨g, 2, none⟩ (.int .i64 c)).setCell ⟨g, 3, none⟩ (.int .i64 d)).setCell ⟨g, 4, none⟩ (.int .i64 f)).heap[g]? = some (.cells #[.int .i64 a, .int .i64 b, .int .i64 c, .int .i64 d, .int .i64 f] T (0, 0)) := heap_setCell_same ((((w.setCell ⟨g, 0, none⟩ (.int .i64 a)).setCell ⟨g, 1, none⟩ (.int .i64 b)).setCell ⟨g, 2, none⟩ (.int .i64 c)).setCell ⟨g, 3, none⟩ (.int .i64 d)) g 4 _ _ (.int .i64 f) h4
  refine ⟨h5, rfl, rfl, rfl, by simp, fun k hk hne => ?_⟩
  have hkg : k ≠ g := fun e => hne (by rw [e])
  rw [heap_set_eq hkg, heap_set_eq hkg, heap_set_eq hkg, heap_set_eq hkg, heap_set_eq hkg]
theorem OB.frozen {T : TypeId} {w : World} {b : Nat} {o : Od} (h : OB T w b o) (j : Nat) : w.frozen? ⟨b, j, none⟩ = false := by
  unfold OB at h
  unfold World.frozen?; simp only [h]; simp
theorem OB.five {T : TypeId} {w : World} {b : Nat} {o : Od} (h : OB T w b o) : w.cell? ⟨b, 0, none⟩ = some (.int .i64 o.k) ∧ w.cell? ⟨b, 1, none⟩ = some (.int .i64 o.n) ∧ w.cell? ⟨b, 2, none⟩ = some (.int .i64 o.m) ∧ w.cell? ⟨b, 3, none⟩ = some (.int .i64 o.f) ∧ w.cell? ⟨b, 4, none⟩ = some (.int .i64 o.t) :=
  ⟨h.at_ (i := 0) (by omega), h.at_ (i := 1) (by omega), h.at_ (i := 2) (by omega), h.at_ (i := 3) (by omega), h.at_ (i := 4) (by omega)⟩
theorem Rdr.fr' {w w' : World} {b c a : Nat} {s : ByteArray} (h : Rdr w b s a) (hf : Fr c none w w') (hne : b ≠ c) : Rdr w' b s a := by
  have hblk := hf.block b h.lt hne (by simp)
  obtain ⟨h0, h1, h2⟩ := h
  exact ⟨by rw [World.cell?_of_block (w := w) (a := ⟨b, 0, none⟩) hblk]; exact h0, by rw [World.cell?_of_block (w := w) (a := ⟨b, 1, none⟩) hblk]; exact h1, by rw [World.frozen?_of_block (w := w) (a := ⟨b, 1, none⟩) hblk]; exact h2⟩
open Go.Extern.Stop Go.Stop Go.Extern Go.PlainAid Go.Lib in
theorem lev_nonneg' (s : ByteArray) : ∀ k, 0 ≤ lev s k
  | 0 => Int.le_refl _
  | k + 1 => by
    have h1 := lev_nonneg' s k
    have h2 : 0 ≤ bt s k * 256 ^ k := Int.mul_nonneg (bt_nonneg s k) (Int.pow_nonneg (by decide))
    show 0 ≤ lev s k + bt s k * 256 ^ k
    omega
set_option maxRecDepth 100000 in
set_option maxHeartbeats 4000000 in
theorem dec_any (s : ByteArray) (w : World) (hs : s.size ≤ 1000000000) :
    Calls Tryz.prog 5 #[.string s] w fun e w' => e = .returned (.tuple #[(decO s).1.val, .int .i64 (decO s).2]) ∧ Below w.heap.size w w' := by
  have hb1 : Below w.heap.size w (w.alloc (.cells #[.int .i64 0, .int .i64 0, .int .i64 0, .int .i64 0, .int .i64 0] 26)) := (Below.refl _ _).alloc (Nat.le_refl _) _
  have hb2 := hb1.alloc hb1.size (.cells #[.int .i64 0, .int .i64 0, .int .i64 0, .int .i64 0, .int .i64 0] 26)
  have hA : OB 26 (w.alloc (.cells #[.int .i64 0, .int .i64 0, .int .i64 0, .int .i64 0, .int .i64 0] 26)) w.heap.size odz := heap_alloc_new _ _
  have hA2 := hA.below ((Below.refl _ _).alloc (Nat.le_refl _) (.cells #[.int .i64 0, .int .i64 0, .int .i64 0, .int .i64 0, .int .i64 0] 26))
  have hB2 : OB 26 ((w.alloc (.cells #[.int .i64 0, .int .i64 0, .int .i64 0, .int .i64 0, .int .i64 0] 26)).alloc (.cells #[.int .i64 0, .int .i64 0, .int .i64 0, .int .i64 0, .int .i64 0] 26)) (w.heap.size + 1) odz := by
    have := heap_alloc_new (w.alloc (.cells #[.int .i64 0, .int .i64 0, .int .i64 0, .int .i64 0, .int .i64 0] 26)) (.cells #[.int .i64 0, .int .i64 0, .int .i64 0, .int .i64 0, .int .i64 0] 26)
    rw [show (w.alloc (.cells #[.int .i64 0, .int .i64 0, .int .i64 0, .int .i64 0, .int .i64 0] 26)).heap.size = w.heap.size + 1 by simp] at this
    exact this
  have HB0 := Lib.hid hb2
  have HA0 := Lib.hid hA2
  have HO0 := Lib.hid hB2
  clear hb1 hb2 hA hA2 hB2
  go_enter Tryz.func5, Tryz.ntmps5
  go_wp2_with fail
  generalize (w.alloc (.cells #[.int .i64 0, .int .i64 0, .int .i64 0, .int .i64 0, .int .i64 0] 26)).alloc (.cells #[.int .i64 0, .int .i64 0, .int .i64 0, .int .i64 0, .int .i64 0] 26) = w1 at HB0 HA0 HO0 ⊢
  go_at_call 15
  refine (newReader s w1).mono ?_
  rintro e w2 ⟨rfl, hR, hb2, -⟩
  have hz1 := HO0.out.lt'
  have HA2 := Lib.hid (HA0.out.below hb2)
  have HO2 := Lib.hid (HO0.out.below hb2)
  have HB2 := Lib.hid (HB0.out.trans (hb2.mono HB0.out.size))
  have HR2 := Lib.hid hR
  clear HA0 HO0 HB0 hR hb2
  generalize w1.heap.size = R at *
  go_wp2_with fail
  go_at_call 16
  refine (numbers5 _ w2).mono ?_
  rintro e w3 ⟨rfl, hb3⟩
  have HA3 := Lib.hid (HA2.out.below hb3)
  have HO3 := Lib.hid (HO2.out.below hb3)
  have HR3 := Lib.hid (HR2.out.below hb3)
  have HB3 := Lib.hid (HB2.out.trans (hb3.mono HB2.out.size))
  clear HA2 HO2 HB2 HR2 hb3
  go_wp2_with fail
  go_loopw [13] (fun iv wr => ∃ i : Nat, i ≤ 5 ∧ iv = .int .i64 i ∧ OB 26 wr w.heap.size odz ∧ OB 26 wr (w.heap.size + 1) (part5 s i) ∧ Rdr wr R s (offs i) ∧ offs i ≤ s.size ∧ Below w.heap.size w wr) (fun iv _ => 5 - (intOf iv).toNat)
  case atStart => exact ⟨0, by omega, rfl, HA3.out, by rw [part5_zero]; exact HO3.out, HR3.out, Nat.zero_le _, HB3.out⟩
  case round =>
    obtain ⟨i, hi, rfl, hA, hO, hR, hle, hb⟩ := hrel
    clear HA3 HO3 HR3 HB3
    by_cases hlt : i < 5
    · have hix := fun W => arr5_at (w.heap.size + 1) hlt W
      have hiI : (i : Int) < 5 := by omega
      have hi0 : (0 : Int) ≤ (i : Int) := by omega
      have hwl := wid5_le i
      have hws := offs_succ i
      have hal : Below wr.heap.size wr (wr.alloc (.cells #[.pointer (some ⟨w.heap.size + 1, i, none⟩), .int .i64 (wid5 i)] 55)) := (Below.refl _ _).alloc (Nat.le_refl _) _
      have HA := Lib.hid (hA.below hal)
      have HO := Lib.hid (hO.below hal)
      have HR := Lib.hid (hR.below hal)
      have HB := Lib.hid (hb.trans (hal.mono hb.size))
      have hn0 := (One5.fresh wr (w.heap.size + 1) i 55)
      have HN := Lib.hid hn0
      obtain ⟨n0, n1⟩ := hn0
      have hRl := hR.lt
      clear hA hO hR hb hal
      go_wp2_with fail
      clear hix
      generalize wr.alloc (.cells #[.pointer (some ⟨w.heap.size + 1, i, none⟩), .int .i64 (wid5 i)] 55) = wx at HA HO HR HB HN n0 n1 ⊢
      have hzz := HN.out.lt
      generalize wr.heap.size = z at *
      by_cases hsh : ((s.size - offs i : Nat) : Int) < wid5 i
      · have HNO := Lib.hid (decO_no (s := s) (fun e => by
          rcases (show i = 0 ∨ i = 1 ∨ i = 2 ∨ i = 3 ∨ i = 4 by omega) with rfl | rfl | rfl | rfl | rfl <;> simp [offs, wid5] at hsh hle <;> omega))
        go_at_call 17
        refine (rnum_short R (offs i) s (wid5 i) _ HR.out hle hs (wid5_width i) hsh).mono ?_
        rintro e wa ⟨v, rfl, hc, hba⟩
        have HBa := Lib.hid (HB.out.trans (hba.mono HB.out.size))
        have HAa := Lib.hid (HA.out.below hba)
        obtain ⟨b1, o1, u1, rfl, -⟩ := hc
        obtain ⟨a0, a1, a2, a3, a4⟩ := HAa.out.five
        have f0 := HAa.out.frozen 0
        have f1 := HAa.out.frozen 1
        have f2 := HAa.out.frozen 2
        have f3 := HAa.out.frozen 3
        have f4 := HAa.out.frozen 4
        clear hba n0 n1
        go_wp2_with fail
        obtain ⟨r1, r2⟩ := store5 HAa.out 0 0 0 0 0
        refine bodyPost_ret (results_cell_tmp rfl _ _ w.heap.size 26 #[.int .i64 0, .int .i64 0, .int .i64 0, .int .i64 0, .int .i64 0] (0, 0) _ rfl r1 Tryz.underlying26 rfl (by kernel_rfl)) rfl ?_
        rw [HNO.out]
        exact ⟨rfl, HBa.out.grown r2 HBa.out.size (fun q hq => by cases hq; exact Nat.le_refl _)⟩
      · have HCA := Lib.hid (show Calls Tryz.prog 17 #[.pointer (some ⟨R, 0, none⟩), .int .i64 (wid5 i)] wx fun e w' => e = .returned (.tuple #[.int .i64 (numD s i), .nilIface]) ∧ Rdr w' R s (offs i + (wid5 i).toNat) ∧ Fr R none wx w' from
          rnum_ok R (offs i) s (wid5 i) _ HR.out hle hs (wid5_width i) (by omega) (by have := numD_bounds s i; unfold numD at this; omega) (lev_nonneg' _ _))
        go_at_call 17
        refine HCA.out.mono ?_
        rintro e wa ⟨rfl, hRa, hFa⟩
        have HAa := Lib.hid (HA.out.fr hFa (by omega) (by simp))
        have hOa := HO.out.fr hFa (by omega) (by simp)
        have HNa := HN.out.fr hFa (by omega) (by simp)
        have HBa := Lib.hid (HB.out.trans ((hFa.below (Nat.le_of_lt HR.out.lt) (fun g hg => by cases hg)).mono (by omega)))
        have HRa := Lib.hid hRa
        have HOa := Lib.hid hOa
        have o1 := hOa.at_ hlt
        have o2 := hOa.frozen i
        have o3 := HNa.1
        have hle' : offs (i + 1) ≤ s.size := by rw [hws]; omega
        have HWS := Lib.hid hws
        clear hFa hRa hOa HNa n0 n1 hws
        go_wp2_with fail
        go_roundw
        case rel =>
          refine ⟨i + 1, by omega, by go_num, ?_, HOa.out.put hlt, ?_, hle', ?_⟩
          · exact (heap_set_eq (by omega) _ _).trans HAa.out
          · rw [HWS.out]; exact HRa.out.setOther _ (by show w.heap.size + 1 ≠ R; omega)
          · exact HBa.out.setCell (by show w.heap.size ≤ w.heap.size + 1; omega) _
        case measure => simp [intOf]; omega
    · obtain rfl : i = 5 := by omega
      have hiI : ¬ ((5 : Nat) : Int) < 5 := by omega
      have HA := Lib.hid hA
      have HO := Lib.hid (show OB 26 wr (w.heap.size + 1) (decV s) by rw [← part5_all]; exact hO)
      have HR := Lib.hid hR
      have HB := Lib.hid hb
      have h9 : 9 ≤ s.size := hle
      clear hA hO hR hb
      by_cases he : s.size = 9
      · have HYES := Lib.hid (decO_yes he)
        go_wp2_with fail
        go_at_call 18
        refine (end_ok R s _ (by have := HR.out; rw [he]; exact this) hs).mono ?_
        rintro e wa ⟨rfl, hba⟩
        have HBa := Lib.hid (HB.out.trans (hba.mono HB.out.size))
        have HAa := Lib.hid (HA.out.below hba)
        have hOa := HO.out.below hba
        obtain ⟨a0, a1, a2, a3, a4⟩ := HAa.out.five
        obtain ⟨c0, c1, c2, c3, c4⟩ := hOa.five
        have f0 := HAa.out.frozen 0
        have f1 := HAa.out.frozen 1
        have f2 := HAa.out.frozen 2
        have f3 := HAa.out.frozen 3
        have f4 := HAa.out.frozen 4
        clear hba hOa he
        obtain ⟨r1, r2⟩ := store5 HAa.out (decV s).k (decV s).n (decV s).m (decV s).f (decV s).t
        have R1 := Lib.hid r1
        have R2 := Lib.hid r2
        clear r1 r2
        go_wp2_with fail
        refine bodyPost_ret (results_cell_tmp rfl _ _ w.heap.size 26 (decV s).cells (0, 0) _ rfl R1.out Tryz.underlying26 rfl (by kernel_rfl)) rfl ?_
        rw [HYES.out]
        exact ⟨rfl, HBa.out.grown R2.out HBa.out.size (fun q hq => by cases hq; exact Nat.le_refl _)⟩
      · have HNO := Lib.hid (decO_no he)
        go_wp2_with fail
        go_at_call 18
        refine (end_bad R 9 s _ HR.out (by omega) hs).mono ?_
        rintro e wa ⟨v, rfl, hc, hba⟩
        have HBa := Lib.hid (HB.out.trans (hba.mono HB.out.size))
        have HAa := Lib.hid (HA.out.below hba)
        obtain ⟨b1, o1, u1, rfl, -⟩ := hc
        obtain ⟨a0, a1, a2, a3, a4⟩ := HAa.out.five
        have f0 := HAa.out.frozen 0
        have f1 := HAa.out.frozen 1
        have f2 := HAa.out.frozen 2
        have f3 := HAa.out.frozen 3
        have f4 := HAa.out.frozen 4
        clear hba he
        go_wp2_with fail
        obtain ⟨r1, r2⟩ := store5 HAa.out 0 0 0 0 0
        refine bodyPost_ret (results_cell_tmp rfl _ _ w.heap.size 26 #[.int .i64 0, .int .i64 0, .int .i64 0, .int .i64 0, .int .i64 0] (0, 0) _ rfl r1 Tryz.underlying26 rfl (by kernel_rfl)) rfl ?_
        rw [HNO.out]
        exact ⟨rfl, HBa.out.grown r2 HBa.out.size (fun q hq => by cases hq; exact Nat.le_refl _)⟩
end Go.Proofs.YthjinpbclfankaaGreatDoor
