/-
  The document's own (weirkeepref08): New, List, Alloc, Same, by contracts.
-/
import Derived.Test.YtlffgfkcgldekaaRtake
namespace Go.Proofs.Ytlffgfkcgldekaa
open Go.RowKit

theorem range_same (a b : Int) (w : World) : (binOp .eql 30 (.agg #[.int .i64 a, .int .i64 b]) (.agg #[.int .i64 a, .int .i64 b])).run Try.prog w = .ok (.bool true) w := by
  have hg : Try.prog.stoodInHeld 30 = false := by kernel_rfl
  have hf : Try.prog.underlying 30 = some (.struct (Try.prog.fieldsOf 30)) := by kernel_rfl
  rw [run_eql_struct, run_equalIn_struct w 9999 30 _ _ hf hg]
  simp [go_sem, Try.underlying30, Try.underlying3]
theorem range_sameN (a b : Int) (w : World) : (binOp .neq 30 (.agg #[.int .i64 a, .int .i64 b]) (.agg #[.int .i64 a, .int .i64 b])).run Try.prog w = .ok (.bool false) w := by
  have hg : Try.prog.stoodInHeld 30 = false := by kernel_rfl
  have hf : Try.prog.underlying 30 = some (.struct (Try.prog.fieldsOf 30)) := by kernel_rfl
  rw [run_neq_struct, run_equalIn_struct w 9999 30 _ _ hf hg]
  simp [go_sem, Try.underlying30, Try.underlying3]

/-- What a slice of ranges looks like to one who reads it. -/
theorem Owns.read {w : World} {base : Nat} {v : Value} {l : List Rg} (h : Owns w base v l) : ∃ A c, v = .slice A l.length c ∧ l.length ≤ c ∧ ∀ i x, l[i]? = some x → ∃ g, A = some ⟨g, 0, none⟩ ∧ At w g (i * 2) x := by
  rcases h.form with ⟨rfl, rfl⟩ | ⟨g, cap, rfl, -, hl⟩
  · exact ⟨none, 0, rfl, Nat.le_refl _, fun i x hx => by simp at hx⟩
  · exact ⟨_, cap, rfl, hl.le, fun i x hx => ⟨g, rfl, hl.at_ i x hx⟩⟩
set_option maxRecDepth 100000 in
set_option maxHeartbeats 1000000 in
theorem same_any (l : List Rg) (va vb : Value) (ba bb : Nat) (w : World) (ha : Owns w ba va l) (hb : Owns w bb vb l) (hm : l.length ≤ 4096) :
    Calls Try.prog 19 #[va, vb] w fun e w' => e = .returned (.bool true) ∧ Drawn w w' := by
  obtain ⟨A, c, rfl, hc, hA⟩ := ha.read
  obtain ⟨B, d, rfl, hd, hB⟩ := hb.read
  have HA := Lib.hid hA
  have HB := Lib.hid hB
  have HG := Lib.hid (fun a (ha : a < l.length) => ex_get ha)
  have hq := fun a b w => range_sameN a b w
  clear ha hb hA hB
  generalize l.length = n at *
  go_enter Try.func19, Try.ntmps19
  go_wp2
  go_loopw [5] (fun iv wr => ∃ k q : Nat, k ≤ n ∧ iv = .int .i64 k ∧ wr = w.drewN q) (fun iv _ => n - (intOf iv).toNat)
  case atStart => exact ⟨0, 0, Nat.zero_le _, rfl, rfl⟩
  case round =>
    obtain ⟨k, q, hk, rfl, rfl⟩ := hrel
    by_cases hlt : k < n
    · have hlI : (k : Int) < (n : Int) := by omega
      have hk0 : (0 : Int) ≤ (k : Int) := by omega
      obtain ⟨⟨xf, xt⟩, hx⟩ := HG.out k hlt
      obtain ⟨g1, rfl, a0, a1⟩ := HA.out k _ hx
      obtain ⟨g2, rfl, b0, b1⟩ := HB.out k _ hx
      replace a0 : w.cell? ⟨g1, k * 2, none⟩ = some (.int .i64 xf) := a0
      replace a1 : w.cell? ⟨g1, k * 2 + 1, none⟩ = some (.int .i64 xt) := a1
      replace b0 : w.cell? ⟨g2, k * 2, none⟩ = some (.int .i64 xf) := b0
      replace b1 : w.cell? ⟨g2, k * 2 + 1, none⟩ = some (.int .i64 xt) := b1
      clear hx
      go_wp2
      go_quiet (fail)
      go_wp2
      go_roundw
      case rel => exact ⟨k + 1, _, by omega, by go_num, rfl⟩
      case measure => simp [intOf]; omega
    · obtain rfl : n = k := by omega
      have hlI : ¬ ((n : Int) < (n : Int)) := by omega
      go_wp2
      go_ret
      exact ⟨rfl, q, rfl⟩

/-! ### New -/
theorem info_bool : (Try.prog.info? 4).map (fun i => (i.zero, i.size, i.bytes)) = some (some (.bool false), 1, 1) := by kernel_rfl
/-- While New sets its bits. -/
structure Mk (w wr : World) (n k : Nat) : Prop where
  row : wr.heap[w.heap.size + 1]? = some (.cells #[.slice (some ⟨w.heap.size, 0, none⟩) n n] 50 (0, 0))
  bits : wr.rowIs w.heap.size 4 n (fun o => .bool (decide (o < k)))
  bel : Below w.heap.size w wr
theorem Mk.start (w : World) (n : Nat) : Mk w ((w.alloc (.cells (madeCells #[.bool false] n) 4)).alloc (.cells #[.slice (some ⟨w.heap.size, 0, none⟩) n n] 50)) n 0 := by
  refine ⟨heap_alloc2_new w _ _, ?_, ((Below.refl _ _).alloc (Nat.le_refl _) _).alloc (by simp) _⟩
  refine ((World.rowIs_made w (.bool false) n 4).of_block (Below.heap_alloc (w.alloc (.cells (madeCells #[.bool false] n) 4)) _ _ (by simp))).congr fun i _ => ?_
  simp
theorem Mk.set {w wr : World} {n k : Nat} (h : Mk w wr n k) : Mk w (wr.setCell ⟨w.heap.size, k, none⟩ (.bool true)) n (k + 1) :=
  ⟨by rw [Below.heap_setCell _ _ _ _ (by simp)]; exact h.row, (h.bits.set k (.bool true)).congr fun i _ => by
    by_cases e : i = k
    · rw [if_pos e]; simp [e]
    · rw [if_neg e]; congr 1; simp; omega, h.bel.setCell (Nat.le_refl _) _⟩
theorem Mk.done {w wr : World} (n : Int) (h : Mk w wr (size0 n) (size0 n)) : Goes (fun _ => False) w wr (RB wr (w.heap.size + 1) (fresh n)) := by
  refine ⟨_, RBv.rb (g := w.heap.size) ⟨h.row, by omega, h.bits.congr fun i hi => ?_⟩, fun k hk => by rcases hk with rfl | rfl; (exact .inr (by omega)); (exact .inr (Nat.le_refl _)), Keeps.of_below h.bel⟩
  show Value.bool (decide (i < size0 n)) = .bool (decide (0 ≤ (i : Int) ∧ (i : Int) < (size0 n : Int)))
  congr 1
  simp
set_option maxRecDepth 100000 in
set_option maxHeartbeats 1000000 in
theorem rnew_any (n : Int) (w : World) :
    Calls Try.prog 10 #[.int .i64 n] w fun e w' => e = .returned (.pointer (some ⟨w.heap.size + 1, 0, none⟩)) ∧ Goes (fun _ => False) w w' (RB w' (w.heap.size + 1) (fresh n)) := by
  have HD := Lib.hid (fun wr => Mk.done (w := w) (wr := wr) n)
  have HS := Lib.hid (Mk.start w (size0 n))
  have hin := size0_in n
  have hmk : ∀ v : Int, v = (size0 n : Int) → ∀ w : World, (Instr.makeSlice 48 (.int .i64 v) (.int .i64 v)).run Try.prog w = .ok (.slice (some ⟨w.heap.size, 0, none⟩) (size0 n) (size0 n)) (w.alloc (.cells (madeCells #[.bool false] (size0 n)) 4)) :=
    fun v hv w => by subst hv; exact run_make_row' 48 4 _ 1 Try.underlying48 info_bool rfl .i64 .i64 (size0 n) (by omega) (by omega) w
  have HMK := Lib.hid hmk
  have hsz := size0_is n
  obtain ⟨m, hm⟩ : ∃ m, size0 n = m := ⟨_, rfl⟩
  rw [hm] at HD HS hin HMK hsz
  clear hm hmk
  by_cases h1 : n ≤ 1
  · have hsz1 : (1 : Int) = (m : Int) := by rw [hsz]; split; rfl; split; omega; omega
    clear hsz
    have hsz := hsz1
    have hmk := HMK.out 1 hsz1
    clear hsz1
    clear hsz
    go_enter Try.func10, Try.ntmps10
    go_wp2
    go_loopw [4] (fun iv wr => ∃ k : Nat, k ≤ m ∧ iv = .int .i64 k ∧ Mk w wr m k) (fun iv _ => m - (intOf iv).toNat)
    case atStart => exact ⟨0, Nat.zero_le _, rfl, HS.out⟩
    case round =>
      obtain ⟨k, hk, rfl, hM⟩ := hrel
      have c0 : wr.cell? ⟨w.heap.size + 1, 0, none⟩ = some (.slice (some ⟨w.heap.size, 0, none⟩) m m) := cell_of_row _ _ _ _ _ _ hM.row
      by_cases hlt : k < m
      · have hlI : (k : Int) < (m : Int) := by omega
        have hk0 : (0 : Int) ≤ (k : Int) := by omega
        have c1 := hM.bits.cell hlt
        have c2 := hM.bits.frozen k
        have HM := Lib.hid hM.set
        clear hM
        go_wp2
        go_roundw
        case rel => exact ⟨k + 1, by omega, by go_num, HM.out⟩
        case measure => simp [intOf]; omega
      · obtain rfl : m = k := by omega
        have hlI : ¬ ((m : Int) < (m : Int)) := by omega
        have HM := Lib.hid (HD.out _ hM)
        clear hM
        go_wp2
        go_ret
        exact ⟨rfl, HM.out⟩
  · rw [if_neg (by omega)] at hsz
    by_cases h2 : 4096 < n
    · rw [if_pos h2] at hsz
      have hmk := HMK.out 4096 hsz.symm
      clear hsz
      go_enter Try.func10, Try.ntmps10
      go_wp2
      go_loopw [4] (fun iv wr => ∃ k : Nat, k ≤ m ∧ iv = .int .i64 k ∧ Mk w wr m k) (fun iv _ => m - (intOf iv).toNat)
      case atStart => exact ⟨0, Nat.zero_le _, rfl, HS.out⟩
      case round =>
        obtain ⟨k, hk, rfl, hM⟩ := hrel
        have c0 : wr.cell? ⟨w.heap.size + 1, 0, none⟩ = some (.slice (some ⟨w.heap.size, 0, none⟩) m m) := cell_of_row _ _ _ _ _ _ hM.row
        by_cases hlt : k < m
        · have hlI : (k : Int) < (m : Int) := by omega
          have hk0 : (0 : Int) ≤ (k : Int) := by omega
          have c1 := hM.bits.cell hlt
          have c2 := hM.bits.frozen k
          have HM := Lib.hid hM.set
          clear hM
          go_wp2
          go_roundw
          case rel => exact ⟨k + 1, by omega, by go_num, HM.out⟩
          case measure => simp [intOf]; omega
        · obtain rfl : m = k := by omega
          have hlI : ¬ ((m : Int) < (m : Int)) := by omega
          have HM := Lib.hid (HD.out _ hM)
          clear hM
          go_wp2
          go_ret
          exact ⟨rfl, HM.out⟩
    · rw [if_neg h2] at hsz
      have hmk := HMK.out n hsz.symm
      clear hsz
      go_enter Try.func10, Try.ntmps10
      go_wp2
      go_loopw [4] (fun iv wr => ∃ k : Nat, k ≤ m ∧ iv = .int .i64 k ∧ Mk w wr m k) (fun iv _ => m - (intOf iv).toNat)
      case atStart => exact ⟨0, Nat.zero_le _, rfl, HS.out⟩
      case round =>
        obtain ⟨k, hk, rfl, hM⟩ := hrel
        have c0 : wr.cell? ⟨w.heap.size + 1, 0, none⟩ = some (.slice (some ⟨w.heap.size, 0, none⟩) m m) := cell_of_row _ _ _ _ _ _ hM.row
        by_cases hlt : k < m
        · have hlI : (k : Int) < (m : Int) := by omega
          have hk0 : (0 : Int) ≤ (k : Int) := by omega
          have c1 := hM.bits.cell hlt
          have c2 := hM.bits.frozen k
          have HM := Lib.hid hM.set
          clear hM
          go_wp2
          go_roundw
          case rel => exact ⟨k + 1, by omega, by go_num, HM.out⟩
          case measure => simp [intOf]; omega
        · obtain rfl : m = k := by omega
          have hlI : ¬ ((m : Int) < (m : Int)) := by omega
          have HM := Lib.hid (HD.out _ hM)
          clear hM
          go_wp2
          go_ret
          exact ⟨rfl, HM.out⟩
end Go.Proofs.Ytlffgfkcgldekaa
