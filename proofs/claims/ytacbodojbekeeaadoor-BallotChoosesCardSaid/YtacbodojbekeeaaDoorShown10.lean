/-
  heavy and shown (weirkeeplaw10), by contracts.
-/
import Derived.Test.YtacbodojbekeeaaDoorStp10
import Derived.Test.YtacbodojbekeeaaDoorLoad10
import Derived.Test.YtacbodojbekeeaaDoorNumb
namespace Go.Proofs.YtacbodojbekeeaaDoor
open Go.RowKit

theorem load_empty : loadOf ⟨#[]⟩ = none := by
  have e : openOf ⟨#[]⟩ = (ByteArray.empty, false) := by
    unfold openOf
    rw [if_neg (fun h => absurd h.1 (by decide))]
  unfold loadOf
  rw [e]
  rfl
set_option maxRecDepth 100000 in
theorem shown_any (w : World) (hT : Tab w) (hE : ErrType w) :
    Calls Tryd.prog 10 #[] w fun e w' => e = .returned (.bool true) ∧ Below w.heap.size w w' := by
  have HO := Lib.hid (own_any 1 w)
  rw [show ownR 1 = 0 from rfl, show ownN 1 = 0 from rfl] at HO
  have HL := Lib.hid (load_any ⟨#[]⟩ w hT hE (by decide))
  clear hT hE
  go_enter Tryd.func10, Tryd.ntmps10
  go_wp2_with fail
  go_at_call 26
  refine HO.out.mono ?_
  rintro e w1 ⟨rfl, rfl⟩
  go_wp2_with fail
  go_at_call 20
  refine HL.out.mono ?_
  rintro e w2 ⟨v, k, rfl, hb, hor⟩
  have HB := Lib.hid hb
  clear hb
  rcases hor with ⟨-, rfl, rfl⟩ | ⟨A, a, h, -⟩
  · go_wp2
    go_ret
    exact ⟨rfl, HB.out⟩
  · rw [load_empty] at h; cases h
/-- What heavy answers. -/
def HeavyOut (n : Nat) (w : World) (e : Ending) (w' : World) : Prop := ∃ hv : Bool, e = .returned (.bool hv) ∧ w = w' ∧ (hv = false → n ≤ 100)
theorem HeavyOut.yes {n : Nat} {w w' : World} {e : Ending} (he : e = .returned (.bool true)) (hw : w = w') : HeavyOut n w e w' := ⟨true, he, hw, fun h => by cases h⟩
theorem HeavyOut.no {n : Nat} {w w' : World} {e : Ending} (he : e = .returned (.bool false)) (hw : w = w') (h : n ≤ 100) : HeavyOut n w e w' := ⟨false, he, hw, fun _ => h⟩
set_option maxRecDepth 100000 in
set_option maxHeartbeats 2000000 in
theorem heavy_any {w : World} {A : Option Addr} {n c : Nat} {st : Nat → Stp} (h : SIn w A n st) (hn : n ≤ 9223372036854775807) :
    Calls Tryd.prog 9 #[.slice A n c] w fun e w' => HeavyOut n w e w' := by
  have HS := Lib.hid h
  clear h
  obtain ⟨N0, hN0⟩ : ∃ N0 : Int, min (n : Int) 1048576 = N0 := ⟨_, rfl⟩
  have hN1 : 0 ≤ N0 := by omega
  have hN2 : N0 ≤ 1048576 := by omega
  have hN3 : (n : Int) ≤ N0 ∨ 8192 < N0 := by omega
  go_enter Tryd.func9, Tryd.ntmps9
  go_wp2
  clear hN0
  go_loop [3, 4] (fun nv iv => ∃ (i : Nat) (N : Int), i ≤ n ∧ iv = .int .i64 i ∧ nv = .int .i64 N ∧ 0 ≤ N ∧ N ≤ 1056768 ∧ ((n : Int) ≤ N ∨ 8192 < N)) (fun _ iv => n - (RowKit.intOf iv).toNat)
  case atStart => exact ⟨0, N0, Nat.zero_le _, rfl, rfl, hN1, by omega, hN3⟩
  case round =>
    obtain ⟨i, N, hi, rfl, rfl, k1, k2, k3⟩ := hrel
    by_cases hlt : i < n
    · have hlI : (i : Int) < (n : Int) := by omega
      have hiI : (0 : Int) ≤ (i : Int) := by omega
      by_cases hN : N ≤ 8192
      · obtain ⟨g, off, rfl, hc⟩ := HS.out.cells (Below.refl _ _) hlt
        obtain ⟨x, hx⟩ : ∃ x, st i = x := ⟨_, rfl⟩
        rw [hx] at hc
        obtain ⟨-, -, -, -, -, c5⟩ := hc
        obtain ⟨M, hM⟩ : ∃ M : Int, min (x.v.x.size : Int) 1048576 = M := ⟨_, rfl⟩
        have hM1 : 0 ≤ M := by omega
        have hM2 : M ≤ 1048576 := by omega
        clear hx HS
        go_wp2
        go_round
        case rel => exact ⟨i + 1, N + M, by omega, by go_num, by go_num, by omega, by omega, by omega⟩
        case measure => simp only [RowKit.intOf]; omega
      · have hN' : ¬ N ≤ 8192 := hN
        have hN8 : 8192 < N := by omega
        clear HS
        go_wp2
        go_ret
        exact HeavyOut.yes rfl rfl
    · obtain rfl : i = n := by omega
      have hlI : ¬ ((i : Int) < (i : Int)) := by omega
      clear HS
      by_cases hN8 : 8192 < N
      · go_wp2
        go_ret
        exact HeavyOut.yes rfl rfl
      · by_cases h100 : 100 < i
        · have h100I : (100 : Int) < (i : Int) := by omega
          go_wp2
          go_ret
          exact HeavyOut.yes rfl rfl
        · have h100I : ¬ (100 : Int) < (i : Int) := by omega
          go_wp2
          go_ret
          exact HeavyOut.no rfl rfl (by omega)
end Go.Proofs.YtacbodojbekeeaaDoor
