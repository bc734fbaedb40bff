/-
  PlateReads, walked.
-/
import Derived.Test.YtodllmgcoclnmaaTexts
namespace Go.Proofs.Ytodllmgcoclnmaa
open Go.RowKit

attribute [local go_sem ↓] Go.wp_at_zero Go.wp_at_succ wp_appL

set_option maxRecDepth 100000 in
set_option maxHeartbeats 8000000 in
theorem readsLaw_any (A1 : Option Addr) (n1 c1 : Nat) (st1 : Nat → Stp) (i : Int) (t : ByteArray) (w : World) (hS1 : Steps w A1 n1 st1) (hn1 : n1 ≤ 9223372036854775807) (hi1 : i < 9223372036854775808) (ht : t.size ≤ 9223372036854775807) :
    Calls Try.prog 7 #[.slice A1 n1 c1, .int .i64 i, .string t] w fun e w' => e = .returned (.bool true) ∧ Below w.heap.size w w' := by
  have HS1 := Lib.hid hS1
  have HV1 := Lib.hid (heavy_any A1 n1 c1 st1 w hS1 hn1)
  have HNW := Lib.hid (fun w => new_any 9 w)
  have HRN := Lib.hid (fun w => rnew_any 9 w)
  have F0 := Lib.hid Fr.fresh
  clear hS1
  go_enter Try.func7, Try.ntmps7
  go_wp2_with fail
  go_at_call 8
  refine HV1.out.mono ?_
  rintro e w1 ⟨⟨v, rfl, hv⟩, rfl⟩
  clear HV1
  cases v with
  | true =>
    go_wp2
    go_ret
    exact ⟨rfl, Below.refl _ _⟩
  | false =>
  have hm1 : n1 ≤ 200 := hv rfl
  clear hv
  by_cases hts : 1024 < t.size
  · have htI : (1024 : Int) < (t.size : Int) := by omega
    go_wp2
    go_ret
    exact ⟨rfl, Below.refl _ _⟩
  have htI : ¬ ((1024 : Int) < (t.size : Int)) := by omega
  go_wp2_with fail
  go_at_call 9
  refine (HNW.out _).mono ?_
  rintro e w1 ⟨rfl, k1⟩
  have P1 := Lib.hid (PIn.start (Below.refl _ w) k1)
  clear k1
  generalize w.heap.size = b at P1
  go_wp2_with fail
  go_at_call 10
  refine (HRN.out _).mono ?_
  rintro e w2 ⟨rfl, k2⟩
  have P2 := Lib.hid (PR.start P1.out k2)
  clear k2 P1 HNW HRN
  generalize w1.heap.size = r at P2
  generalize fresh 9 = s0 at P2 F0
  go_wp2_with fail
  go_loopw [9] (fun iv wr => ∃ (k : Nat) (s : St), k ≤ n1 ∧ iv = .int .i64 k ∧ PR w wr b s r s ∧ Fr s k) (fun iv _ => n1 - (intOf iv).toNat)
  case atStart => exact ⟨0, s0, Nat.zero_le _, rfl, P2.out, F0.out⟩
  case round =>
  obtain ⟨k, s, hk, rfl, hP, hF⟩ := hrel
  have P3 := Lib.hid hP
  have F3 := Lib.hid hF
  clear hP hF P2 F0
  have hwt := F3.out.wt
  have hsn := F3.out.n
  by_cases hlt : k < n1
  · have hlI : (k : Int) < (n1 : Int) := by omega
    have hk0 : (0 : Int) ≤ (k : Int) := by omega
    obtain ⟨ab, off, rfl, hat0⟩ := HS1.out k hlt
    generalize st1 k = o at hat0
    obtain ⟨ok, oi, ot, okp⟩ := o
    have hws := hat0.ws
    by_cases hx : ok = 0
    · subst hx
      have HC := Lib.hid (fun (W : World) (h : Below w.heap.size w W) => show W.cell? ⟨ab, off + k * 4, none⟩ = some (.int .i64 0) ∧ W.cell? ⟨ab, off + k * 4 + 1, none⟩ = some (.int .i64 oi) ∧ W.cell? ⟨ab, off + k * 4 + 2, none⟩ = some (.string ot) from ⟨(hat0.below h hat0.lt).c0, (hat0.below h hat0.lt).c1, (hat0.below h hat0.lt).c2⟩)
      have Pd := Lib.hid (P3.out.below ((Below.refl _ _).drew))
      have HA := Lib.hid (fun W (Q : PR w W b s r s) => pr_write Q F3.out.good (by omega) (by omega) oi ot hws)
      have HB := Lib.hid (fun W s1 (Q : PR w W b s1 r s) => prr_write Q F3.out.good (by omega) (by omega) oi ot hws)
      have F4 := Lib.hid (F3.out.write oi ot)
      clear hat0 P3 F3
      generalize writeS s oi ot = s4 at HA HB F4
      generalize writeE s oi ot = ev at HA HB
      go_wp2_with fail
      go_region_held3 (fun w' => w'.cell? ⟨ab, off + k * 4, none⟩ = some (.int .i64 0) ∧ w'.cell? ⟨ab, off + k * 4 + 1, none⟩ = some (.int .i64 oi) ∧ w'.cell? ⟨ab, off + k * 4 + 2, none⟩ = some (.string ot))
        (first | exact HC.out _ Pd.out.bel | exact HC.out _ Pe.out.bel | exact HC.out _ P5.out.bel | fail)
        (first
          | (go_at_call 12; refine (HA.out _ Pd.out).mono ?_; rintro e w4 ⟨rfl, k1⟩; have Pe := Lib.hid k1; clear k1)
          | (go_at_call 13; refine (HB.out _ _ Pe.out).mono ?_; rintro e w5 ⟨rfl, k1⟩; have P5 := Lib.hid k1; clear k1)
          | fail)
      clear HA HB
      obtain ⟨d0, -, -⟩ := HC.out _ P5.out.bel
      go_wp2_with fail
      go_roundw
      case rel => exact ⟨k + 1, s4, by omega, by go_num, P5.out, F4.out⟩
      case measure => simp [intOf]; omega
    · by_cases hx1 : ok = 1
      · subst hx1
        have c0 := (hat0.below P3.out.bel hat0.lt).c0
        have HA := Lib.hid (fun W (Q : PR w W b s r s) => pr_sync Q F3.out.good (by omega) (by omega))
        have HB := Lib.hid (fun W s1 (Q : PR w W b s1 r s) => prr_sync Q F3.out.good (by omega))
        have F4 := Lib.hid F3.out.sync.1
        clear hat0 F3
        generalize syncS s = s4 at HA HB F4
        generalize syncE s = ev at HA HB
        go_wp2_with fail
        go_quiet (fail)
        go_wp2_with (first
          | (go_at_call 14; refine (HA.out _ (P3.out.drewN _)).mono ?_; rintro e w4 ⟨rfl, k1⟩; have Pe := Lib.hid k1; clear k1)
          | (go_at_call 15; refine (HB.out _ _ Pe.out).mono ?_; rintro e w5 ⟨rfl, k1⟩; have P5 := Lib.hid k1; clear k1)
          | fail)
        go_roundw
        case rel => exact ⟨k + 1, s4, by omega, by go_num, P5.out, F4.out⟩
        case measure => simp [intOf]; omega
      · have c0 := (hat0.below P3.out.bel hat0.lt).c0
        have hd : decide (ok = 0) = false := decide_eq_false hx
        have hd2 : (ok == 0) = false := by simpa using hx
        have hd3 : decide (ok = 1) = false := decide_eq_false hx1
        have hd4 : (ok == 1) = false := by simpa using hx1
        clear hat0
        go_wp2_with fail
        go_quiet (fail)
        go_wp2_with fail
        go_roundw
        case rel => exact ⟨k + 1, s, by omega, by go_num, P3.out.drewN _, F3.out.mono (by omega)⟩
        case measure => simp [intOf]; omega
  · have hlI : ¬ ((k : Int) < (n1 : Int)) := by omega
    obtain rfl : n1 = k := by omega
    clear hlt HS1
    have P4 := Lib.hid (texts_start P3.out.pin #[])
    have O4 := Lib.hid (texts_empty wr)
    go_wp2_with fail
    go_loopw [10, 11] (fun vv iv wx => ∃ (j : Nat), j ≤ 9 ∧ iv = .int .i64 j ∧ PIO w wx b s (ownB vv) ∧ wx.ownsRow 0 9 1 vv (reads s j).length (scells (reads s j))) (fun _ iv _ => 9 - (intOf iv).toNat)
    case atStart => exact ⟨0, Nat.zero_le _, rfl, P4.out, O4.out⟩
    case round =>
    obtain ⟨j, hj, rfl, hP, hO⟩ := hrel
    have P5 := Lib.hid hP
    have O5 := Lib.hid hO
    clear hP hO P4 O4 P3
    by_cases hj9 : j < 9
    · have hjI : (j : Int) < 9 := by omega
      have hj0 : (0 : Int) ≤ (j : Int) := by omega
      have HPR := Lib.hid (pin_read P5.out.pin F3.out.good (j : Int))
      rw [F3.out.wrong_in j hj9] at HPR
      go_wp2_with (first
        | (go_at_call 22; refine HPR.out.mono ?_; rintro e w5 ⟨rfl, k1⟩; (obtain ⟨u, w6, ha1, ha2, ha3, hP6, hO6⟩ := texts_append (P5.out.below k1) (owns_below O5.out k1) (by rw [reads_length]; omega) (readV s (j : Int))); have P6 := Lib.hid hP6; have O6 := Lib.hid hO6; clear k1 hP6 hO6)
        | fail)
      go_roundw
      case rel => exact ⟨j + 1, by omega, by go_num, P6.out, by rw [reads_succ]; exact O6.out⟩
      case measure => simp [intOf]; omega
    · have hjI : ¬ ((j : Int) < 9) := by omega
      obtain rfl : j = 9 := by omega
      obtain ⟨g, cap, hvv⟩ := texts_form O5.out (by rw [reads_length]; omega)
      rw [reads_length] at hvv
      subst hvv
      have HZ := Lib.hid (fun (h : t.size ≤ 32) w => rzeros_any (32 - t.size) (by omega) w)
      clear hj hj9
      by_cases h0 : i < 0
      · have h0I : ¬ ((0 : Int) ≤ i) := by omega
        have hev : writeE s i t = 71 := by rw [F3.out.writeE, if_pos (by omega)]
        have HA := Lib.hid (io_write P5.out F3.out.good (by omega) (by omega) i t ht)
        rw [hev, F3.out.same (by rw [hev]; omega)] at HA
        have F6 := Lib.hid (F3.out.mono (j := n1 + 1) (by omega))
        clear hev
        go_wp2_with (first
          | (go_at_call 12; refine HA.out.mono ?_; rintro e w7 ⟨rfl, k1, k2⟩; have P6 := Lib.hid k1; have O6 := Lib.hid (k2.owns O5.out (fun _ h => h)); clear k1 k2)
          | fail)
        clear HA P5 O5
        go_loopw [15] (fun iv wx => ∃ (m : Nat) (s7 : St), m ≤ 2 ∧ iv = .int .i64 m ∧ PIO w wx b s7 (ownB (.slice (some ⟨g, 0, none⟩) 9 cap)) ∧ Fr s7 (n1 + 1 + m) ∧ (∀ j : Nat, j < 9 → readV s7 (j : Int) = readV s (j : Int)) ∧ wx.ownsRow 0 9 1 (.slice (some ⟨g, 0, none⟩) 9 cap) (reads s 9).length (scells (reads s 9))) (fun iv _ => 2 - (intOf iv).toNat)
        case atStart => exact ⟨0, s, Nat.zero_le _, rfl, P6.out, F6.out, fun _ _ => rfl, O6.out⟩
        case round =>
        obtain ⟨m, s7, hm, rfl, hP, hF, hW, hO⟩ := hrel
        have P7 := Lib.hid hP
        have F7 := Lib.hid hF
        have W7 := Lib.hid hW
        have O7 := Lib.hid hO
        clear hP hF hW hO P6 F6 O6
        by_cases hm2 : m < 2
        · have hmI : (m : Int) < 2 := by omega
          go_wp2_with fail
          go_loopw [16] (fun iv wx => ∃ (j : Nat), j ≤ 9 ∧ iv = .int .i64 j ∧ PIO w wx b s7 (ownB (.slice (some ⟨g, 0, none⟩) 9 cap)) ∧ wx.ownsRow 0 9 1 (.slice (some ⟨g, 0, none⟩) 9 cap) (reads s 9).length (scells (reads s 9))) (fun iv _ => 9 - (intOf iv).toNat)
          case atStart => exact ⟨0, Nat.zero_le _, rfl, P7.out, O7.out⟩
          case round =>
          obtain ⟨j, hj, rfl, hP, hO⟩ := hrel
          have P8 := Lib.hid hP
          have O8 := Lib.hid hO
          clear hP hO P7 O7
          by_cases hj9 : j < 9
          · have hjI : (j : Int) < 9 := by omega
            have hj0 : (0 : Int) ≤ (j : Int) := by omega
            have HPR := Lib.hid (pin_read P8.out.pin F7.out.good (j : Int))
            rw [F7.out.wrong_in j hj9] at HPR
            have hsz := F7.out.read_size j hj9
            rw [W7.out j hj9] at HPR hsz
            go_wp2_with (first
              | (go_at_call 22; refine HPR.out.mono ?_; rintro e w8 ⟨rfl, k1⟩; have P9 := Lib.hid (P8.out.below k1); have O9 := Lib.hid (owns_below O8.out k1); (have d1 := texts_cell O9.out (reads_get s hj9)); clear k1)
              | fail)
            go_roundw
            case rel => exact ⟨j + 1, by omega, by go_num, P9.out, O9.out⟩
            case measure => simp [intOf]; omega
          · have hjI : ¬ ((j : Int) < 9) := by omega
            have HY := Lib.hid (io_sync P8.out F7.out.good (by have := F7.out.wt; omega) (by have := F7.out.n; omega))
            rw [F7.out.syncE] at HY
            have F8 := Lib.hid F7.out.sync.1
            have W8 := Lib.hid (fun (i : Nat) (hi : i < 9) => (F7.out.read_sync i hi).trans (W7.out i hi))
            clear hj hj9
            generalize syncS s7 = s8 at HY F8 W8
            go_wp2_with (first
              | (go_at_call 14; refine HY.out.mono ?_; rintro e w9 ⟨rfl, k1, k2⟩; have P9 := Lib.hid k1; have O9 := Lib.hid (k2.owns O8.out (fun _ h => h)); clear k1 k2)
              | fail)
            go_roundw
            case rel => exact ⟨m + 1, s8, by omega, by go_num, P9.out, F8.out, W8.out, O9.out⟩
            case measure => simp [intOf]; omega
        · have hmI : ¬ ((m : Int) < 2) := by omega
          go_wp2_with fail
          go_ret
          exact ⟨rfl, P7.out.bel⟩
      · have h0I : (0 : Int) ≤ i := by omega
        by_cases h9 : 9 ≤ i
        · have h9I : ¬ (i < 9) := by omega
          have hev : writeE s i t = 71 := by rw [F3.out.writeE, if_pos (by omega)]
          have HA := Lib.hid (io_write P5.out F3.out.good (by omega) (by omega) i t ht)
          rw [hev, F3.out.same (by rw [hev]; omega)] at HA
          have F6 := Lib.hid (F3.out.mono (j := n1 + 1) (by omega))
          clear hev
          go_wp2_with (first
            | (go_at_call 12; refine HA.out.mono ?_; rintro e w7 ⟨rfl, k1, k2⟩; have P6 := Lib.hid k1; have O6 := Lib.hid (k2.owns O5.out (fun _ h => h)); clear k1 k2)
            | fail)
          clear HA P5 O5
          go_loopw [15] (fun iv wx => ∃ (m : Nat) (s7 : St), m ≤ 2 ∧ iv = .int .i64 m ∧ PIO w wx b s7 (ownB (.slice (some ⟨g, 0, none⟩) 9 cap)) ∧ Fr s7 (n1 + 1 + m) ∧ (∀ j : Nat, j < 9 → readV s7 (j : Int) = readV s (j : Int)) ∧ wx.ownsRow 0 9 1 (.slice (some ⟨g, 0, none⟩) 9 cap) (reads s 9).length (scells (reads s 9))) (fun iv _ => 2 - (intOf iv).toNat)
          case atStart => exact ⟨0, s, Nat.zero_le _, rfl, P6.out, F6.out, fun _ _ => rfl, O6.out⟩
          case round =>
          obtain ⟨m, s7, hm, rfl, hP, hF, hW, hO⟩ := hrel
          have P7 := Lib.hid hP
          have F7 := Lib.hid hF
          have W7 := Lib.hid hW
          have O7 := Lib.hid hO
          clear hP hF hW hO P6 F6 O6
          by_cases hm2 : m < 2
          · have hmI : (m : Int) < 2 := by omega
            go_wp2_with fail
            go_loopw [16] (fun iv wx => ∃ (j : Nat), j ≤ 9 ∧ iv = .int .i64 j ∧ PIO w wx b s7 (ownB (.slice (some ⟨g, 0, none⟩) 9 cap)) ∧ wx.ownsRow 0 9 1 (.slice (some ⟨g, 0, none⟩) 9 cap) (reads s 9).length (scells (reads s 9))) (fun iv _ => 9 - (intOf iv).toNat)
            case atStart => exact ⟨0, Nat.zero_le _, rfl, P7.out, O7.out⟩
            case round =>
            obtain ⟨j, hj, rfl, hP, hO⟩ := hrel
            have P8 := Lib.hid hP
            have O8 := Lib.hid hO
            clear hP hO P7 O7
            by_cases hj9 : j < 9
            · have hjI : (j : Int) < 9 := by omega
              have hj0 : (0 : Int) ≤ (j : Int) := by omega
              have HPR := Lib.hid (pin_read P8.out.pin F7.out.good (j : Int))
              rw [F7.out.wrong_in j hj9] at HPR
              have hsz := F7.out.read_size j hj9
              rw [W7.out j hj9] at HPR hsz
              go_wp2_with (first
                | (go_at_call 22; refine HPR.out.mono ?_; rintro e w8 ⟨rfl, k1⟩; have P9 := Lib.hid (P8.out.below k1); have O9 := Lib.hid (owns_below O8.out k1); (have d1 := texts_cell O9.out (reads_get s hj9)); clear k1)
                | fail)
              go_roundw
              case rel => exact ⟨j + 1, by omega, by go_num, P9.out, O9.out⟩
              case measure => simp [intOf]; omega
            · have hjI : ¬ ((j : Int) < 9) := by omega
              have HY := Lib.hid (io_sync P8.out F7.out.good (by have := F7.out.wt; omega) (by have := F7.out.n; omega))
              rw [F7.out.syncE] at HY
              have F8 := Lib.hid F7.out.sync.1
              have W8 := Lib.hid (fun (i : Nat) (hi : i < 9) => (F7.out.read_sync i hi).trans (W7.out i hi))
              clear hj hj9
              generalize syncS s7 = s8 at HY F8 W8
              go_wp2_with (first
                | (go_at_call 14; refine HY.out.mono ?_; rintro e w9 ⟨rfl, k1, k2⟩; have P9 := Lib.hid k1; have O9 := Lib.hid (k2.owns O8.out (fun _ h => h)); clear k1 k2)
                | fail)
              go_roundw
              case rel => exact ⟨m + 1, s8, by omega, by go_num, P9.out, F8.out, W8.out, O9.out⟩
              case measure => simp [intOf]; omega
          · have hmI : ¬ ((m : Int) < 2) := by omega
            go_wp2_with fail
            go_ret
            exact ⟨rfl, P7.out.bel⟩
        · have h9I : i < 9 := by omega
          by_cases hb : 32 < t.size
          · have hbI : ¬ ((t.size : Int) ≤ 32) := by omega
            have hev : writeE s i t = 11 := by rw [F3.out.writeE, if_neg (by omega), if_pos (by omega)]
            have HA := Lib.hid (io_write P5.out F3.out.good (by omega) (by omega) i t ht)
            rw [hev, F3.out.same (by rw [hev]; omega)] at HA
            have F6 := Lib.hid (F3.out.mono (j := n1 + 1) (by omega))
            clear hev
            go_wp2_with (first
              | (go_at_call 12; refine HA.out.mono ?_; rintro e w7 ⟨rfl, k1, k2⟩; have P6 := Lib.hid k1; have O6 := Lib.hid (k2.owns O5.out (fun _ h => h)); clear k1 k2)
              | fail)
            clear HA P5 O5
            go_loopw [15] (fun iv wx => ∃ (m : Nat) (s7 : St), m ≤ 2 ∧ iv = .int .i64 m ∧ PIO w wx b s7 (ownB (.slice (some ⟨g, 0, none⟩) 9 cap)) ∧ Fr s7 (n1 + 1 + m) ∧ (∀ j : Nat, j < 9 → readV s7 (j : Int) = readV s (j : Int)) ∧ wx.ownsRow 0 9 1 (.slice (some ⟨g, 0, none⟩) 9 cap) (reads s 9).length (scells (reads s 9))) (fun iv _ => 2 - (intOf iv).toNat)
            case atStart => exact ⟨0, s, Nat.zero_le _, rfl, P6.out, F6.out, fun _ _ => rfl, O6.out⟩
            case round =>
            obtain ⟨m, s7, hm, rfl, hP, hF, hW, hO⟩ := hrel
            have P7 := Lib.hid hP
            have F7 := Lib.hid hF
            have W7 := Lib.hid hW
            have O7 := Lib.hid hO
            clear hP hF hW hO P6 F6 O6
            by_cases hm2 : m < 2
            · have hmI : (m : Int) < 2 := by omega
              go_wp2_with fail
              go_loopw [16] (fun iv wx => ∃ (j : Nat), j ≤ 9 ∧ iv = .int .i64 j ∧ PIO w wx b s7 (ownB (.slice (some ⟨g, 0, none⟩) 9 cap)) ∧ wx.ownsRow 0 9 1 (.slice (some ⟨g, 0, none⟩) 9 cap) (reads s 9).length (scells (reads s 9))) (fun iv _ => 9 - (intOf iv).toNat)
              case atStart => exact ⟨0, Nat.zero_le _, rfl, P7.out, O7.out⟩
              case round =>
              obtain ⟨j, hj, rfl, hP, hO⟩ := hrel
              have P8 := Lib.hid hP
              have O8 := Lib.hid hO
              clear hP hO P7 O7
              by_cases hj9 : j < 9
              · have hjI : (j : Int) < 9 := by omega
                have hj0 : (0 : Int) ≤ (j : Int) := by omega
                have HPR := Lib.hid (pin_read P8.out.pin F7.out.good (j : Int))
                rw [F7.out.wrong_in j hj9] at HPR
                have hsz := F7.out.read_size j hj9
                rw [W7.out j hj9] at HPR hsz
                go_wp2_with (first
                  | (go_at_call 22; refine HPR.out.mono ?_; rintro e w8 ⟨rfl, k1⟩; have P9 := Lib.hid (P8.out.below k1); have O9 := Lib.hid (owns_below O8.out k1); (have d1 := texts_cell O9.out (reads_get s hj9)); clear k1)
                  | fail)
                go_roundw
                case rel => exact ⟨j + 1, by omega, by go_num, P9.out, O9.out⟩
                case measure => simp [intOf]; omega
              · have hjI : ¬ ((j : Int) < 9) := by omega
                have HY := Lib.hid (io_sync P8.out F7.out.good (by have := F7.out.wt; omega) (by have := F7.out.n; omega))
                rw [F7.out.syncE] at HY
                have F8 := Lib.hid F7.out.sync.1
                have W8 := Lib.hid (fun (i : Nat) (hi : i < 9) => (F7.out.read_sync i hi).trans (W7.out i hi))
                clear hj hj9
                generalize syncS s7 = s8 at HY F8 W8
                go_wp2_with (first
                  | (go_at_call 14; refine HY.out.mono ?_; rintro e w9 ⟨rfl, k1, k2⟩; have P9 := Lib.hid k1; have O9 := Lib.hid (k2.owns O8.out (fun _ h => h)); clear k1 k2)
                  | fail)
                go_roundw
                case rel => exact ⟨m + 1, s8, by omega, by go_num, P9.out, F8.out, W8.out, O9.out⟩
                case measure => simp [intOf]; omega
            · have hmI : ¬ ((m : Int) < 2) := by omega
              go_wp2_with fail
              go_ret
              exact ⟨rfl, P7.out.bel⟩
          · have hbI : (t.size : Int) ≤ 32 := by omega
            obtain ⟨q, rfl⟩ : ∃ q : Nat, i = (q : Int) := ⟨i.toNat, by omega⟩
            have hq9 : q < 9 := by omega
            have hev : writeE s (q : Int) t = 0 := by rw [F3.out.writeE, if_neg (by omega), if_neg (by omega)]
            have HW := Lib.hid (fun (j : Nat) (hj : j < 9) => F3.out.read_write hev j hj)
            have F6 := Lib.hid (F3.out.write (q : Int) t)
            have HA := Lib.hid (io_write P5.out F3.out.good (by omega) (by omega) (q : Int) t ht)
            rw [hev] at HA
            have hzs : (str (zeros (32 - t.size))).size = 32 - t.size := by rw [str_size]; simp [zeros]
            have hty : t ++ str (zeros (32 - t.size)) = str (pad t) := pad_str
            have HZ1 := Lib.hid (fun w => HZ.out (by omega) w)
            rw [show ((32 - t.size : Nat) : Int) = 32 - (t.size : Int) by omega] at HZ1
            clear hev
            generalize writeS s (q : Int) t = s6 at HA HW F6
            go_wp2_with (first
              | (go_at_call 12; refine HA.out.mono ?_; rintro e w7 ⟨rfl, k1, k2⟩; have P6 := Lib.hid k1; have O6 := Lib.hid (k2.owns O5.out (fun _ h => h)); clear k1 k2)
              | fail)
            clear HA P5 O5
            go_loopw [15] (fun iv wx => ∃ (m : Nat) (s7 : St), m ≤ 2 ∧ iv = .int .i64 m ∧ PIO w wx b s7 (ownB (.slice (some ⟨g, 0, none⟩) 9 cap)) ∧ Fr s7 (n1 + 1 + m) ∧ (∀ j : Nat, j < 9 → readV s7 (j : Int) = if (q : Int) = (j : Int) then pad t else readV s (j : Int)) ∧ wx.ownsRow 0 9 1 (.slice (some ⟨g, 0, none⟩) 9 cap) (reads s 9).length (scells (reads s 9))) (fun iv _ => 2 - (intOf iv).toNat)
            case atStart => exact ⟨0, s6, Nat.zero_le _, rfl, P6.out, F6.out, HW.out, O6.out⟩
            case round =>
            obtain ⟨m, s7, hm, rfl, hP, hF, hW, hO⟩ := hrel
            have P7 := Lib.hid hP
            have F7 := Lib.hid hF
            have W7 := Lib.hid hW
            have O7 := Lib.hid hO
            clear hP hF hW hO P6 F6 O6 HW
            by_cases hm2 : m < 2
            · have hmI : (m : Int) < 2 := by omega
              go_wp2_with fail
              go_loopw [16] (fun iv wx => ∃ (j : Nat), j ≤ 9 ∧ iv = .int .i64 j ∧ PIO w wx b s7 (ownB (.slice (some ⟨g, 0, none⟩) 9 cap)) ∧ wx.ownsRow 0 9 1 (.slice (some ⟨g, 0, none⟩) 9 cap) (reads s 9).length (scells (reads s 9))) (fun iv _ => 9 - (intOf iv).toNat)
              case atStart => exact ⟨0, Nat.zero_le _, rfl, P7.out, O7.out⟩
              case round =>
              obtain ⟨j, hj, rfl, hP, hO⟩ := hrel
              have P8 := Lib.hid hP
              have O8 := Lib.hid hO
              clear hP hO P7 O7
              by_cases hj9 : j < 9
              · have hjI : (j : Int) < 9 := by omega
                have hj0 : (0 : Int) ≤ (j : Int) := by omega
                have HPR := Lib.hid (pin_read P8.out.pin F7.out.good (j : Int))
                rw [F7.out.wrong_in j hj9] at HPR
                have hsz := F7.out.read_size j hj9
                rw [W7.out j hj9] at HPR hsz
                by_cases hjq : q = j
                · have hjqI : (q : Int) = (j : Int) := by omega
                  rw [if_pos hjqI] at HPR hsz
                  clear hjqI
                  subst hjq
                  go_wp2_with (first
                    | (go_at_call 22; refine HPR.out.mono ?_; rintro e w8 ⟨rfl, k1⟩; have P9 := Lib.hid (P8.out.below k1); have O9 := Lib.hid (owns_below O8.out k1); (have d1 := texts_cell O9.out (reads_get s hj9)); clear k1)
                    | (go_at_call 26; refine (HZ1.out _).mono ?_; rintro e w9 ⟨rfl, k1⟩; have P10 := Lib.hid (P9.out.below k1); have O10 := Lib.hid (owns_below O9.out k1); clear k1)
                    | fail)
                  go_roundw
                  case rel => exact ⟨q + 1, by omega, by go_num, P10.out, O10.out⟩
                  case measure => simp [intOf]; omega
                · have hjqI : ¬ ((q : Int) = (j : Int)) := by omega
                  have hjqJ : ¬ ((j : Int) = (q : Int)) := by omega
                  rw [if_neg hjqI] at HPR hsz
                  have hjqN : ¬ (j = q) := fun e => hjq e.symm
                  have hjqB : decide ((j : Int) = (q : Int)) = false := decide_eq_false hjqJ
                  have hjqC : ((j : Int) == (q : Int)) = false := by rw [beq_eq_false_iff_ne]; exact hjqJ
                  clear hjqI hjq hty hzs HZ1
                  go_wp2_with (first
                    | (go_at_call 22; refine HPR.out.mono ?_; rintro e w8 ⟨rfl, k1⟩; have P9 := Lib.hid (P8.out.below k1); have O9 := Lib.hid (owns_below O8.out k1); (have d1 := texts_cell O9.out (reads_get s hj9)); clear k1)
                    | fail)
                  go_roundw
                  case rel => exact ⟨j + 1, by omega, by go_num, P9.out, O9.out⟩
                  case measure => simp [intOf]; omega
              · have hjI : ¬ ((j : Int) < 9) := by omega
                have HY := Lib.hid (io_sync P8.out F7.out.good (by have := F7.out.wt; omega) (by have := F7.out.n; omega))
                rw [F7.out.syncE] at HY
                have F8 := Lib.hid F7.out.sync.1
                have W8 := Lib.hid (fun (i : Nat) (hi : i < 9) => (F7.out.read_sync i hi).trans (W7.out i hi))
                clear hj hj9
                generalize syncS s7 = s8 at HY F8 W8
                go_wp2_with (first
                  | (go_at_call 14; refine HY.out.mono ?_; rintro e w9 ⟨rfl, k1, k2⟩; have P9 := Lib.hid k1; have O9 := Lib.hid (k2.owns O8.out (fun _ h => h)); clear k1 k2)
                  | fail)
                go_roundw
                case rel => exact ⟨m + 1, s8, by omega, by go_num, P9.out, F8.out, W8.out, O9.out⟩
                case measure => simp [intOf]; omega
            · have hmI : ¬ ((m : Int) < 2) := by omega
              go_wp2_with fail
              go_ret
              exact ⟨rfl, P7.out.bel⟩
end Go.Proofs.Ytodllmgcoclnmaa
