/-
  ClockTicks, walked.
-/
import Derived.Test.YtdkkoeiceaolnaaRtick
import Derived.Test.YtdkkoeiceaolnaaHist
import Derived.Deep.RegionHeld3
namespace Go.Proofs.Ytdkkoeiceaolnaa
open Go.RowKit

set_option maxRecDepth 100000 in
set_option maxHeartbeats 4000000 in
theorem ticks_any (n0 : Int) (A : Option Addr) (n c : Nat) (f g : Nat → Int) (w : World) (hS : Tks w A n f g) :
    Calls Try.prog 3 #[.int .i64 n0, .slice A n c] w fun e w' => e = .returned (.bool true) ∧ Below w.heap.size w w' := by
  by_cases h5 : n ≤ 500
  · have hc := cl_in n0 1 8 (by omega)
    have hk8 : (cl n0 1 8).toNat ≤ 8 := by omega
    have HN := Lib.hid (new_any n0)
    have HR := Lib.hid (rnew_any n0)
    clear hc
    generalize (cl n0 1 8).toNat = k at HN HR hk8
    have HS := Lib.hid hS
    have h5' : ¬ ((500 : Int) < (n : Int)) := by omega
    clear hS
    go_enter Try.func3, Try.ntmps3
    go_wp2_with fail
    go_at_call 9
    refine (HN.out _).mono ?_
    rintro e w1 ⟨rfl, k1, k2, k3⟩
    have hlt1 := World.rowIs.lt k1
    have C1 := Lib.hid k1
    have B1 := Lib.hid k2
    have Z1 := Lib.hid k3
    clear k1 k2 k3
    go_wp2_with fail
    go_at_call 10
    refine (HR.out _).mono ?_
    rintro e w2 ⟨rfl, k1, k2, k3⟩
    have C2 := Lib.hid (show Ck w2 w.heap.size k (fun _ => 0) from C1.out.of_block (k2.block _ hlt1))
    have B2 := Lib.hid (B1.out.trans (k2.mono B1.out.size))
    have R2 := Lib.hid k1
    have hc0 := C2.out.count
    have hr0 := k1.list
    clear k1 k2 k3 C1
    obtain ⟨b, hb⟩ : ∃ b, w.heap.size = b := ⟨_, rfl⟩
    obtain ⟨r, hr⟩ : ∃ r, w1.heap.size + 1 = r := ⟨_, rfl⟩
    obtain ⟨q, hq⟩ : ∃ q, w1.heap.size = q := ⟨_, rfl⟩
    have HBB := Lib.hid hb
    have hbq : b < q := by have := Z1.out; omega
    have hqr : q < r := by omega
    have HL := Lib.hid (fun n' => len_any _ _ _ (w2.drewN n') C2.out)
    rw [hb] at C2 hc0 HL ⊢
    rw [hq] at R2 hr0 hr ⊢
    rw [hr] at R2 hr0 ⊢
    clear hb hr hq B1 Z1 HN HR hlt1
    go_wp2_with fail
    go_quiet ((go_at_call 11; exact quiet_same (HL.out _)))
    have C3 := Lib.hid (show Ck (w2.drewN nq) b k (fun _ => 0) from C2.out)
    have R3 := Lib.hid (show Rk (w2.drewN nq) r q k (fun _ => 0) from ⟨R2.out.head, R2.out.row, R2.out.ne⟩)
    have B3 := Lib.hid (below_drewN B2.out nq)
    clear hc0 hr0 C2 R2 B2 HL
    generalize w2.drewN nq = w3 at C3 R3 B3 ⊢
    go_wp2
    go_loopw [7] (fun iv wr => ∃ (j : Nat) (T : Nat → Int), j ≤ n ∧ iv = .int .i64 j ∧ TOk T ∧ Ck wr b k T ∧ Rk wr r q k T ∧ Below w.heap.size w wr) (fun iv _ => n - (intOf iv).toNat)
    case atStart => exact ⟨0, fun _ => 0, Nat.zero_le _, rfl, fun _ => by simp, C3.out, R3.out, B3.out⟩
    case round =>
      obtain ⟨j, T, hj, rfl, hT, hC, hR, hB⟩ := hrel
      have HT := Lib.hid hT
      have HC := Lib.hid hC
      have HR := Lib.hid hR
      have HB := Lib.hid hB
      clear hT hC hR hB C3 R3 B3
      by_cases hlt : j < n
      · have hlI : (j : Int) < (n : Int) := by omega
        have hjI : (0 : Int) ≤ (j : Int) := by omega
        obtain ⟨ab, off, rfl, x0, x1⟩ := HS.out j hlt
        have hab := cell_lt5 x0
        have y0 : wr.drew.cell? ⟨ab, off + j * 2, none⟩ = some (.int .i64 (f j)) := (HB.out.drew.cell (p := ⟨ab, off + j * 2, none⟩) hab).trans x0
        have y1 : wr.drew.cell? ⟨ab, off + j * 2 + 1, none⟩ = some (.int .i64 (g j)) := (HB.out.drew.cell (p := ⟨ab, off + j * 2 + 1, none⟩) hab).trans x1
        have hab1 : ab < b := by have := HBB.out; omega
        have HCz := Lib.hid (show Ck wr.drew b k T from HC.out)
        have HRz := Lib.hid (show Rk wr.drew r q k T from ⟨HR.out.head, HR.out.row, HR.out.ne⟩)
        have HBz := Lib.hid HB.out.drew
        clear x0 x1 hab HC HR HB
        go_wp2_with fail
        go_region_held3 (fun w' => w'.cell? ⟨ab, off + j * 2, none⟩ = some (.int .i64 (f j)) ∧ w'.cell? ⟨ab, off + j * 2 + 1, none⟩ = some (.int .i64 (g j)))
          (first | exact ⟨y0, y1⟩ | exact Ya.out | exact Yb.out | fail)
          (first
            | (go_at_call 12; refine (tick_any b k T (f j) (g j) _ HCz.out hk8 HT.out).mono ?_; rintro e wa ⟨rfl, k1, k2⟩; have HCa := Lib.hid k1; have HRa := Lib.hid (HRz.out.kept k2 (by omega) (by omega)); have HBa := Lib.hid (k2.below HBz.out (Nat.le_of_eq HBB.out)); have Ya := Lib.hid (And.intro ((k2.cell (o := off + j * 2) (show ab ≠ b by omega)).trans y0) ((k2.cell (o := off + j * 2 + 1) (show ab ≠ b by omega)).trans y1)); clear k1 k2)
            | (go_at_call 13; refine (rtick_any r q k T (f j) (g j) _ HRa.out HT.out).mono ?_; rintro e wb ⟨rfl, k1, k2⟩; have HRb := Lib.hid k1; have HCb := Lib.hid (k2.row (show b ≠ q by omega) HCa.out); have HBb := Lib.hid (k2.below HBa.out (by have := HBB.out; omega)); have Yb := Lib.hid (And.intro ((k2.cell (o := off + j * 2) (show ab ≠ q by omega)).trans Ya.out.1) ((k2.cell (o := off + j * 2 + 1) (show ab ≠ q by omega)).trans Ya.out.2)); clear k1 k2)
            | fail)
        go_wp2_with fail
        have hl := HRb.out.list
        clear y0 y1 Ya Yb HCz HRz HBz HCa HRa HBa
        go_loop [8] (fun v => ∃ z : Int, -1 ≤ z ∧ z ≤ (k : Int) + 1 ∧ v = .int .i64 z) (fun v => ((k : Int) + 1 - intOf v).toNat)
        case atStart => exact ⟨-1, by omega, by omega, rfl⟩
        case round =>
          obtain ⟨z, hz0, hz1, rfl⟩ := hrel
          by_cases hzk : z ≤ (k : Int)
          · go_wp2_with (first
              | (go_at_call 14; refine (now_any b k _ z _ HCb.out hk8).mono ?_; rintro e w' ⟨rfl, rfl⟩)
              | (go_at_call 15; refine (rnow_any r q k _ z _ HRb.out).mono ?_; rintro e w' ⟨rfl, rfl⟩))
            go_round
            case rel => exact ⟨z + 1, by omega, by omega, rfl⟩
            case measure => simp [intOf]; omega
          · have hzk' : (k : Int) < z := by omega
            go_wp2
            go_roundw
            case rel => exact ⟨j + 1, _, by omega, by go_num, tkT_ok HT.out, HCb.out, HRb.out, HBb.out⟩
            case measure => simp [intOf]; omega
      · have hlI : ¬ ((j : Int) < (n : Int)) := by omega
        go_wp2
        go_ret
        exact ⟨rfl, HB.out⟩
  · have h5' : (500 : Int) < (n : Int) := by omega
    clear hS
    go_enter Try.func3, Try.ntmps3
    go_wp2
    go_ret
    exact ⟨rfl, Below.refl _ _⟩
end Go.Proofs.Ytdkkoeiceaolnaa
