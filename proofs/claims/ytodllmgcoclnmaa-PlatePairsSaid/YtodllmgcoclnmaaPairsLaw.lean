/-
  PlatePairs, walked.
-/
import Derived.Test.YtodllmgcoclnmaaPairs
import Derived.Test.YtodllmgcoclnmaaOpenP
namespace Go.Proofs.Ytodllmgcoclnmaa
open Go.RowKit

attribute [local go_sem ↓] Go.wp_at_zero Go.wp_at_succ wp_appL

theorem txt_inj {a b : ByteArray} (h : a.toList = b.toList) : a = b := by
  rw [ByteArray.toList_eq, ByteArray.toList_eq] at h
  exact ByteArray.ext (Array.toList_inj.1 h)
theorem txt_ne {a b : ByteArray} (h : a ≠ b) : (a.toList == b.toList) = false := by
  simp only [beq_eq_false_iff_ne, ne_eq]; exact fun e => h (txt_inj e)

set_option maxRecDepth 100000 in
set_option maxHeartbeats 8000000 in
theorem pairs_any (old : ByteArray) (A1 : Option Addr) (n c1 : Nat) (tx : Nat → ByteArray) (keep : Nat) (w : World) (hS1 : Strs w A1 n tx) (hold : old.size ≤ 9223372036854775807) (hn1 : n ≤ 9223372036854775807) (hkp : keep < 18446744073709551616) :
    Calls Try.prog 4 #[.string old, .slice A1 n c1, .int .u64 (keep : Int)] w fun e w' => e = .returned (.bool true) ∧ Below w.heap.size w w' := by
  have HS1 := Lib.hid hS1
  have HNW := Lib.hid (fun w => new_any 4 w)
  clear hS1
  by_cases ho : 32 < old.size
  · have hoI : (32 : Int) < (old.size : Int) := by omega
    go_enter Try.func4, Try.ntmps4
    go_wp2
    go_ret
    exact ⟨rfl, Below.refl _ _⟩
  have hoI : ¬ ((32 : Int) < (old.size : Int)) := by omega
  by_cases hn : 20 < n
  · have hnI : (20 : Int) < (n : Int) := by omega
    go_enter Try.func4, Try.ntmps4
    go_wp2
    go_ret
    exact ⟨rfl, Below.refl _ _⟩
  have hnI : ¬ ((20 : Int) < (n : Int)) := by omega
  obtain ⟨s1, s2, q1, q2, q3, q4, q5, q6, q7, q8⟩ := pairs_start (t := old) (by omega)
  have HG1 := Lib.hid q3
  have HP2 := Lib.hid q8
  have HA1 := Lib.hid (fun W (Q : PIn w W w.heap.size (fresh 4)) => pin_write Q (Good.fresh 4) (Nat.zero_le _) (Nat.zero_le _) 2 old hold)
  have HA2 := Lib.hid (fun W (Q : PIn w W w.heap.size s1) => pin_sync Q q3 (by omega) (by omega))
  rw [q1, q2] at HA1
  rw [q6, q7] at HA2
  have HZ := Lib.hid (fun (t : ByteArray) (h : t.size ≤ 32) w => rzeros_any (32 - t.size) (by omega) w)
  have HZ1 := Lib.hid (fun w => HZ.out old (by omega) w)
  rw [show ((32 - old.size : Nat) : Int) = 32 - (old.size : Int) by omega] at HZ1
  have hty : old ++ str (zeros (32 - old.size)) = str (pad old) := pad_str
  have hzs : (str (zeros (32 - old.size))).size = 32 - old.size := by rw [str_size]; simp [zeros]
  clear q1 q2 q3 q4 q5 q6 q7 q8
  generalize hb : w.heap.size = b at HA1 HA2
  have HB := Lib.hid hb
  go_enter Try.func4, Try.ntmps4
  go_wp2_with (first
    | (go_at_call 9; refine (HNW.out _).mono ?_; rintro e w1 ⟨rfl, k1⟩; have P1 := Lib.hid (PIn.start (Below.refl _ w) k1); rw [hb] at P1; clear k1)
    | (go_at_call 12; refine (HA1.out _ P1.out).mono ?_; rintro e w2 ⟨rfl, k1⟩; have P2 := Lib.hid k1; clear k1)
    | (go_at_call 14; refine (HA2.out _ P2.out).mono ?_; rintro e w3 ⟨rfl, k1⟩; have P3 := Lib.hid k1; clear k1)
    | (go_at_call 26; refine (HZ1.out _).mono ?_; rintro e w4 ⟨rfl, k1⟩; have P4 := Lib.hid (P3.out.below k1); clear k1)
    | fail)
  have P5 := Lib.hid (texts_start P4.out #[.string (str (pad old))])
  have O5 := Lib.hid (texts_one w4 (pad old))
  clear P1 P2 P3 P4 HA1 HA2 HZ1 HNW hty hzs
  generalize w4.alloc (.cells #[.string (str (pad old))] 9) = w5 at P5 O5 ⊢
  generalize w4.heap.size = g0 at P5 O5 ⊢
  go_loopw [8, 9] (fun mv iv wx => ∃ (j : Nat) (s : St) (l : List (List UInt8)), j ≤ n ∧ iv = .int .i64 j ∧ PIO w wx b s (ownB mv) ∧ wx.ownsRow 0 9 1 mv l.length (scells l) ∧ l.length ≤ j + 1 ∧ 0 < l.length ∧ Pr s l j) (fun _ iv _ => n - (intOf iv).toNat)
  case atStart => exact ⟨0, s2, [pad old], Nat.zero_le _, rfl, P5.out, O5.out, Nat.le_refl _, Nat.zero_lt_one, HP2.out⟩
  case round =>
  obtain ⟨j, s, l, hj, rfl, hP, hO, hl1, hl0, hR⟩ := hrel
  have P6 := Lib.hid hP
  have O6 := Lib.hid hO
  have R6 := Lib.hid hR
  clear hP hO hR P5 O5 HP2
  have hwt := R6.out.wt
  have hsn := R6.out.n
  by_cases hlt : j < n
  · have hlI : (j : Int) < (n : Int) := by omega
    have hj0 : (0 : Int) ≤ (j : Int) := by omega
    obtain ⟨ab, off, rfl, hc0, hx⟩ := HS1.out j hlt
    generalize tx j = x at hc0 hx
    have HC := Lib.hid (fun (W : World) (h : Below w.heap.size w W) => (h.cell (p := ⟨ab, off + j, none⟩) (World.block_lt_of_cell? w _ hc0)).trans hc0)
    have c0 := HC.out _ P6.out.bel
    clear hc0
    by_cases hxs : x.size ≤ 32
    · have hxI : (x.size : Int) ≤ 32 := by omega
      obtain ⟨e1, hpr⟩ := R6.out.write hxs
      have HA := Lib.hid (io_write P6.out R6.out.good (by omega) (by omega) 2 x hx)
      rw [e1] at HA
      have R7 := Lib.hid hpr
      clear e1 hpr
      generalize writeS s 2 x = s7 at HA R7
      have HZ1 := Lib.hid (fun w => HZ.out x hxs w)
      rw [show ((32 - x.size : Nat) : Int) = 32 - (x.size : Int) by omega] at HZ1
      go_wp2_with (first
        | (go_at_call 12; refine HA.out.mono ?_; rintro e w6 ⟨rfl, k1, k2⟩; have P7 := Lib.hid k1; have O7 := Lib.hid (k2.owns O6.out (fun _ h => h)); (have c1 := HC.out _ P7.out.bel); clear k1 k2)
        | fail)
      have hbd : Below w6.heap.size w6 w6.drew := (Below.refl _ _).drew
      have Pd := Lib.hid (P7.out.below hbd)
      have Od := Lib.hid (owns_below O7.out hbd)
      have cd := HC.out _ Pd.out.bel
      have hty : x ++ str (zeros (32 - x.size)) = str (pad x) := pad_str
      have hzs : (str (zeros (32 - x.size))).size = 32 - x.size := by rw [str_size]; simp [zeros]
      have hl9 : l.length ≤ 1000 := by omega
      clear hbd HA P6 O6 c0 P7 O7
      have hwr : IntKind.i64.wrap (32 - (x.size : Int)) = 32 - (x.size : Int) := IntWalk.i64_in _ (by omega)
      go_region_with (go_at_call 26; refine (HZ1.out _).mono ?_; rintro e wz ⟨rfl, kz⟩; (obtain ⟨u, w8, ha1, ha2, ha3, hP8, hO8⟩ := texts_append (Pd.out.below kz) (owns_below Od.out kz) hl9 (pad x)); (have cz := HC.out _ (Pd.out.below kz).bel); have P8 := Lib.hid hP8; have O8 := Lib.hid hO8; clear kz hP8 hO8)
      all_goals
        clear hwr
        go_wp2_with fail
        go_roundw
        case rel => exact ⟨j + 1, s7, l ++ [pad x], by omega, by go_num, P8.out, O8.out, by rw [List.length_append, List.length_singleton]; omega, by rw [List.length_append]; omega, R7.out⟩
        case measure => simp [intOf]; omega
    · have hxI : ¬ ((x.size : Int) ≤ 32) := by omega
      obtain ⟨e1, e2⟩ := R6.out.big (t := x) (by omega)
      have HA := Lib.hid (io_write P6.out R6.out.good (by omega) (by omega) 2 x hx)
      rw [e1, e2] at HA
      clear e1 e2
      go_wp2_with (first
        | (go_at_call 12; refine HA.out.mono ?_; rintro e w6 ⟨rfl, k1, k2⟩; have P7 := Lib.hid k1; have O7 := Lib.hid (k2.owns O6.out (fun _ h => h)); (have c1 := HC.out _ P7.out.bel); clear k1 k2)
        | fail)
      go_roundw
      case rel => exact ⟨j + 1, s, l, by omega, by go_num, P7.out, O7.out, by omega, hl0, R6.out.mono (by omega)⟩
      case measure => simp [intOf]; omega
  · have hlI : ¬ ((j : Int) < (n : Int)) := by omega
    obtain ⟨g, cap, rfl⟩ := texts_form O6.out hl0
    have HCR := Lib.hid (io_crash P6.out R6.out.good (by omega) keep hkp)
    obtain ⟨g1, g2, g3, g4⟩ := R6.out.crash keep
    have hgc := R6.out.good.crash keep
    have HLN := Lib.hid R6.out.lens
    clear R6 HS1 hlt HZ
    generalize crash s keep = s4 at HCR g1 g2 g3 g4 hgc
    have GO := Lib.hid g1
    have HPW := Lib.hid (fun W (Q : PIO w W b s4 (ownB (.slice (some ⟨g, 0, none⟩) l.length cap))) => io_power Q)
    obtain ⟨r1, r2⟩ := power_read g2 2 (by rw [g3]; omega)
    have hy := hgc.sec 2 (by rw [g3]; omega)
    have GP := Lib.hid hgc.power
    have R1 := Lib.hid (show wrong (power s4) 2 = 0 from r1)
    have R2 := Lib.hid (show readV (power s4) 2 = s4.is.getD 2 [] from r2)
    clear r1 r2 g1 g2 g3 hgc
    generalize power s4 = s5 at HPW GP R1 R2
    generalize s4.is.getD 2 [] = y at R2 hy g4
    have HY := Lib.hid g4
    have hsz : (str y).size = 32 := by rw [str_size]; exact hy
    clear g4 hy
    have HPR := Lib.hid (fun W (Q : PIO w W b s5 (ownB (.slice (some ⟨g, 0, none⟩) l.length cap))) => pin_read Q.pin GP.out 2)
    rw [R1.out, R2.out] at HPR
    go_wp2_with (first
      | (go_at_call 18; refine HCR.out.mono ?_; rintro e w6 ⟨rfl, k1, k2⟩; have P7 := Lib.hid k1; have O7 := Lib.hid (k2.owns O6.out (fun _ h => h)); clear k1 k2)
      | (go_at_call 24; refine (pin_dead P7.out.pin).mono ?_; rw [GO.out]; rintro e w7 ⟨rfl, rfl⟩)
      | (go_at_call 20; refine (HPW.out _ P7.out).mono ?_; rintro e w8 ⟨rfl, k1, k2⟩; have P8 := Lib.hid k1; have O8 := Lib.hid (k2.owns O7.out (fun _ h => h)); clear k1 k2)
      | (go_at_call 22; refine (HPR.out _ P8.out).mono ?_; rintro e w9 ⟨rfl, k1⟩; have B9 := Lib.hid (P8.out.below k1).bel; have O9 := Lib.hid (owns_below O8.out k1); clear k1)
      | fail)
    clear HCR HPW HPR P6 O6 P7 O7 P8 O8 GO GP R1 R2
    go_loopw [13] (fun iv wx => ∃ q : Nat, q ≤ 32 ∧ q % 2 = 0 ∧ iv = .int .i64 q ∧ Below w.heap.size w wx ∧ wx.ownsRow 0 9 1 (.slice (some ⟨g, 0, none⟩) l.length cap) l.length (scells l)) (fun iv _ => 33 - (intOf iv).toNat)
    case atStart => exact ⟨0, by omega, rfl, rfl, B9.out, O9.out⟩
    case round =>
    obtain ⟨q, hq, hq2, rfl, hB, hO⟩ := hrel
    have B10 := Lib.hid hB
    have O10 := Lib.hid hO
    clear hB hO B9 O9
    by_cases hq32 : q < 32
    · have hqI : (q : Int) < 32 := by omega
      have hq0 : (0 : Int) ≤ (q : Int) := by omega
      go_wp2_with fail
      go_loopw [14, 15] (fun bv iv wx => ∃ (i : Nat) (f : Bool), i ≤ l.length ∧ bv = .bool f ∧ iv = .int .i64 i ∧ Below w.heap.size w wx ∧ wx.ownsRow 0 9 1 (.slice (some ⟨g, 0, none⟩) l.length cap) l.length (scells l) ∧ (f = false → ∀ (k : Nat) (z : List UInt8), k < i → l[k]? = some z → (z.take (q + 2)).drop q ≠ (y.take (q + 2)).drop q)) (fun _ iv _ => l.length - (intOf iv).toNat)
      case atStart => exact ⟨0, false, Nat.zero_le _, rfl, rfl, B10.out, O10.out, fun _ k z hk => by omega⟩
      case round =>
      obtain ⟨i, f, hi, rfl, rfl, hB, hO, hN⟩ := hrel
      have B11 := Lib.hid hB
      have O11 := Lib.hid hO
      have N11 := Lib.hid hN
      clear hB hO hN B10 O10
      by_cases hil : i < l.length
      · have hiI : (i : Int) < (l.length : Int) := by omega
        have hi0 : (0 : Int) ≤ (i : Int) := by omega
        cases f with
        | true =>
          go_wp2_with fail
          go_quiet (fail)
          go_wp2_with fail
          go_roundw
          case rel => exact ⟨i + 1, true, by omega, rfl, by go_num, below_drewN B11.out _, owns_below O11.out (below_drewN (Below.refl _ _) _), fun h => by cases h⟩
          case measure => simp [intOf]; omega
        | false =>
          obtain ⟨z, hz⟩ : ∃ z, l[i]? = some z := ⟨_, List.getElem?_eq_getElem hil⟩
          have d0 := texts_cell O11.out hz
          have hz32 : (str z).size = 32 := by rw [str_size]; exact HLN.out z (List.mem_of_getElem? hz)
          have e1 := str_extract z q (q + 2)
          have e2 := str_extract y q (q + 2)
          have hq2I : (q : Int) + 2 ≤ 32 := by omega
          have hqle : (q : Int) ≤ (q : Int) + 2 := by omega
          have hq20 : (0 : Int) ≤ (q : Int) + 2 := by omega
          have hqt : ((q : Int) + 2).toNat = q + 2 := by omega
          by_cases he : (z.take (q + 2)).drop q = (y.take (q + 2)).drop q
          · rw [he] at e1
            have hwr : IntKind.i64.wrap ((q : Int) + 2) = (q : Int) + 2 := IntWalk.i64_in _ (by omega)
            go_wp2_with fail
            go_quiet (fail)
            clear hwr
            go_wp2_with fail
            go_roundw
            case rel => exact ⟨i + 1, true, by omega, rfl, by go_num, below_drewN B11.out _, owns_below O11.out (below_drewN (Below.refl _ _) _), fun h => by cases h⟩
            case measure => simp [intOf]; omega
          · have hne := txt_ne (fun e => he (str_inj e))
            have hwr : IntKind.i64.wrap ((q : Int) + 2) = (q : Int) + 2 := IntWalk.i64_in _ (by omega)
            go_wp2_with fail
            go_quiet (fail)
            clear hwr
            go_wp2_with fail
            go_roundw
            case rel =>
              refine ⟨i + 1, false, by omega, rfl, by go_num, below_drewN B11.out _, owns_below O11.out (below_drewN (Below.refl _ _) _), fun _ k u hk hu => ?_⟩
              by_cases ek : k = i
              · subst ek
                rw [hz] at hu
                cases hu
                exact he
              · exact N11.out (by first | exact rfl | trivial) k u (by omega) hu
            case measure => simp [intOf]; omega
      · have hiI : ¬ ((i : Int) < (l.length : Int)) := by omega
        cases f with
        | false =>
          exfalso
          obtain ⟨k, u, hu, he⟩ := HY.out (q / 2) (by omega)
          rw [show 2 * (q / 2) = q by omega] at he
          exact N11.out (by first | exact rfl | trivial) k u (by have := (List.getElem?_eq_some_iff.1 hu).1; omega) hu he.symm
        | true =>
          go_wp2_with fail
          go_roundw
          case rel => exact ⟨q + 2, by omega, by omega, by go_num, B11.out, O11.out⟩
          case measure => simp [intOf]; omega
    · have hqI : ¬ ((q : Int) < 32) := by omega
      go_wp2_with fail
      go_ret
      exact ⟨rfl, by rw [← HB.out]; exact B10.out⟩
end Go.Proofs.Ytodllmgcoclnmaa
