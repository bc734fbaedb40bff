/-
  The document's own sum (weirkeepref02), by a contract.
-/
import Derived.Test.YtacdbfaoeioflaaDoorSum
namespace Go.Proofs.YtacdbfaoeioflaaDoor
open Go.RowKit

/-- Some bits go out. -/
def stepN : Nat → Nat → Nat
  | 0, y => y
  | j + 1, y => step1 (stepN j y)
theorem stepN_lt (y : Nat) (h : y < 4294967296) : ∀ j, stepN j y < 4294967296
  | 0 => h
  | j + 1 => step1_lt _ (stepN_lt y h j)
theorem step1_even' (d : Nat) (h : ((d : Int) % 2 == 1) = false) : step1 d = d / 2 := by
  unfold step1
  have h1 : ¬ (d : Int) % 2 = 1 := by simpa using h
  rw [if_neg (by omega)]; simp
theorem step1_odd (d : Nat) (hd : d < 4294967296) (h : ((d : Int) % 2 == 1) = true) : bits .xor .u32 ((d : Int) / 2) 3988292384 = (step1 d : Int) := by
  have h1 : (d : Int) % 2 = 1 := by simpa using h
  have e := u32_xor_nat (d / 2) 3988292384 (by omega) (by omega)
  unfold step1
  rw [if_pos (by omega), ← e]; rfl

theorem xor_sum (s : ByteArray) : bits .xor .u32 (crc 4294967295 s.data.toList : Int) 4294967295 = (sumOf s : Int) :=
  u32_xor_nat (crc 4294967295 s.data.toList) 4294967295 (crc_lt _ _ (by omega)) (by omega)

set_option maxRecDepth 100000 in
set_option maxHeartbeats 1000000 in
theorem rsum_any (s : ByteArray) (w : World) (hs : s.size ≤ 1000000000000) :
    Calls Tryd.prog 40 #[.string s] w fun e w' => e = .returned (.int .u32 (sumOf s : Int)) ∧ w = w' := by
  go_enter Tryd.func40, Tryd.ntmps40
  go_wp2
  go_loop [3, 4] (fun c i => ∃ k : Nat, k ≤ s.size ∧ i = .int .i64 k ∧ c = .int .u32 (crc 4294967295 (s.data.toList.take k) : Int)) (fun _ i => s.size - (intOf i).toNat)
  case atStart => exact ⟨0, Nat.zero_le _, rfl, by simp [crc_nil]⟩
  case round =>
    obtain ⟨k, hk, rfl, rfl⟩ := hrel
    by_cases hlt : k < s.size
    · have HS := Lib.hid (crc_snoc s k hlt)
      have h8 := u8_lt s[k]
      have hl := crc_lt (s.data.toList.take k) 4294967295 (by omega)
      have hx := u32_xor_nat _ s[k].toNat hl (by have := u8_lt s[k]; omega)
      have hy := xor_lt _ s[k].toNat hl (by have := u8_lt s[k]; omega)
      go_wp2
      have HE := Lib.hid (show stepB (crc 4294967295 (s.data.toList.take k)) s[k].toNat = stepN 8 (crc 4294967295 (s.data.toList.take k) ^^^ s[k].toNat) from rfl)
      generalize crc 4294967295 (s.data.toList.take k) ^^^ s[k].toNat = y at hx hy HE ⊢
      clear hx hl
      go_loop [3, 5] (fun c j => ∃ m : Nat, m ≤ 8 ∧ j = .int .i64 m ∧ c = .int .u32 (stepN m y : Int)) (fun _ j => 8 - (intOf j).toNat)
      case atStart => exact ⟨0, by omega, rfl, rfl⟩
      case round =>
        obtain ⟨m, hm, rfl, rfl⟩ := hrel
        have hd := stepN_lt y hy m
        by_cases hm8 : m < 8
        · have HN := Lib.hid (show stepN (m + 1) y = step1 (stepN m y) from rfl)
          generalize stepN m y = d at HN hd ⊢
          by_cases ho : ((d : Int) % 2 == 1) = true
          · have hx := step1_odd d hd ho
            go_wp2
            go_round
            case rel => exact ⟨m + 1, by omega, by go_num, by rw [HN.out]⟩
            case measure => simp [intOf]; omega
          · have ho' : ((d : Int) % 2 == 1) = false := by simpa using ho
            have HX := Lib.hid (step1_even' d ho')
            clear ho
            go_wp2
            go_round
            case rel => exact ⟨m + 1, by omega, by go_num, by rw [HN.out, HX.out]; go_num⟩
            case measure => simp [intOf]; omega
        · obtain rfl : m = 8 := by omega
          go_wp2
          go_round
          case rel => exact ⟨k + 1, by omega, by go_num, by rw [HS.out, HE.out]⟩
          case measure => simp [intOf]; omega
    · rw [take_all s k hlt]
      go_wp2
      go_ret
      exact ⟨ret_u32 (xor_sum s), rfl⟩
end Go.Proofs.YtacdbfaoeioflaaDoor
