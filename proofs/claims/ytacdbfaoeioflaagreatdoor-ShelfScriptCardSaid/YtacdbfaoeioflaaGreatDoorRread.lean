/-
  The document's own Read and Write (weirkeepref07), by contracts.
-/
import Derived.Test.YtacdbfaoeioflaaGreatDoorRsync
namespace Go.Proofs.YtacdbfaoeioflaaGreatDoor
open Go.RowKit

set_option maxRecDepth 100000 in
set_option maxHeartbeats 2000000 in
theorem rread_any (b : Nat) (s : St) (F : Nat → Prop) (i : Int) (w : World) (h : RB w b s F) :
    Calls Tryz.prog 44 #[.pointer (some ⟨b, 0, none⟩), .int .i64 i] w fun e w' => e = .returned (.tuple #[.string (str (readV s i)), .int .i64 (wrong s i)]) ∧ w = w' := by
  have HR := Lib.hid (rwrong_any b s F i w h)
  obtain ⟨vi, vw, h, -⟩ := h.v
  obtain ⟨c0, c1, -⟩ := h.cells
  obtain ⟨⟨A, c, rfl, hc1, hc2, hcI⟩, ⟨B, d, rfl, hd1, hd2, hcW⟩⟩ := h.shapes
  clear h
  by_cases hi : wrong s i = 0
  · have e1 : readV s i = readB s i.toNat := by unfold readV; rw [if_neg (by omega)]
    rw [e1, hi]
    rw [hi] at HR
    obtain ⟨-, h0, h1⟩ := wrong_zero hi
    obtain ⟨k, rfl⟩ : ∃ k : Nat, i = (k : Int) := ⟨i.toNat, by omega⟩
    rw [Int.toNat_natCast]
    have hk : k < s.is.length := by omega
    have hold : s.is[k]? = some (s.is.getD k []) := by rw [List.getD_eq_getElem?_getD, List.getElem?_eq_getElem hk]; rfl
    obtain ⟨gi, rfl, hgi, i0⟩ := hcI k _ hold
    have HCW := Lib.hid hcW
    unfold maxLen at hc2 hd2
    clear hcI hcW hold hi e1
    unfold readB
    generalize s.is.getD k [] = old at i0 ⊢
    go_enter Tryz.func44, Tryz.ntmps44
    go_wp2_with (go_at_call 55; refine HR.out.mono ?_; rintro e w1 ⟨rfl, rfl⟩)
    go_loop [7, 8] (fun sv jv => ∃ j : Nat, j ≤ s.wait.length ∧ jv = .int .i64 j ∧ sv = .string (str (seen s.wait k old j))) (fun _ jv => s.wait.length - (intOf jv).toNat)
    case atStart => exact ⟨0, Nat.zero_le _, rfl, rfl⟩
    case round =>
      obtain ⟨j, hj, rfl, rfl⟩ := hrel
      by_cases hlt : j < s.wait.length
      · have hlI : (j : Int) < (s.wait.length : Int) := by omega
        have hj0 : (0 : Int) ≤ (j : Int) := by omega
        obtain ⟨x, hx⟩ : ∃ x, s.wait[j]? = some x := ⟨_, List.getElem?_eq_getElem hlt⟩
        obtain ⟨gw, rfl, hgw, w0, w1⟩ := HCW.out j x hx
        have HS := Lib.hid (show seen s.wait k old (j + 1) = if x.i = k then x.b else seen s.wait k old j from by
          show (match s.wait[j]? with | none => seen s.wait k old j | some w => if w.i = k then w.b else seen s.wait k old j) = _
          rw [hx])
        clear hx
        generalize seen s.wait k old j = cur at HS ⊢
        by_cases hxk : x.i = k
        · have hS : seen s.wait k old (j + 1) = x.b := by rw [HS.out, if_pos hxk]
          have HS2 := Lib.hid hS
          have ht : ((x.i : Int) == (k : Int)) = true := by simp [hxk]
          clear hS hxk
          go_wp2
          go_round
          case rel => exact ⟨j + 1, by omega, by go_num, by rw [HS2.out]⟩
          case measure => simp [intOf]; omega
        · have hS : seen s.wait k old (j + 1) = cur := by rw [HS.out, if_neg hxk]
          have HS2 := Lib.hid hS
          have ht : ((x.i : Int) == (k : Int)) = false := by simp; omega
          clear hS hxk
          go_wp2
          go_round
          case rel => exact ⟨j + 1, by omega, by go_num, by rw [HS2.out]⟩
          case measure => simp [intOf]; omega
      · obtain rfl : j = s.wait.length := by omega
        have hlI : ¬ ((s.wait.length : Int) < (s.wait.length : Int)) := by omega
        clear hj
        go_wp2
        go_ret2
        exact ⟨rfl, rfl⟩
  · have e1 : readV s i = [] := by unfold readV; rw [if_pos hi]
    rw [e1]
    generalize wrong s i = x at HR hi ⊢
    have hx : (x == 0) = false := by simpa using hi
    clear hcI hcW e1
    go_enter Tryz.func44, Tryz.ntmps44
    go_wp2_with (go_at_call 55; refine HR.out.mono ?_; rintro e w1 ⟨rfl, rfl⟩)
    go_ret2
    exact ⟨rfl, rfl⟩
end Go.Proofs.YtacdbfaoeioflaaGreatDoor
