/-
  windows (package clock), by contracts: an iterator that tells all windows in their order.
-/
import Derived.Test.YtdkkoeiceaolnaaSums
import Derived.RangeFuncNested
import Derived.RangeFuncBound
import Derived.RangeFuncCalls
import Derived.RangeFuncLeaves
import Derived.Shelf.Abstract
import Derived.Shelf.RegionOpen
import Derived.OwnWalkIn
import Derived.TacticsInMore
import Derived.LoopNIn
import Derived.LoopIn
namespace Go.Proofs.Ytdkkoeiceaolnaa
open Go.RowKit Go.Shelf
attribute [local go_sem] Oper.semAt_some

theorem windows_any (n : Nat) (w : World) :
    Calls Try.prog 27 #[.int .i64 n] w fun e w' => e = .returned (.func (.func 33) #[] #[.pointer (some ⟨w.heap.size, 0, none⟩)]) ∧ w' = w.alloc (.cells #[.int .i64 n] 3) := by
  go_enter Try.func27, Try.ntmps27
  go_wp2
  go_ret
  exact ⟨rfl, rfl⟩

/-- A window of n rows: its first and its last row. -/
abbrev Win (n : Nat) : Type := { p : Nat × Nat // p.1 ≤ p.2 ∧ p.2 < n }
abbrev encW (n : Nat) (x : Win n) : Array Value := #[.int .i64 (x.1.1 : Int), .int .i64 (x.1.2 : Int)]
theorem upto_length {t d : Nat} (h : d ≤ t + 1) : (upto t d).length = (wins t).length + d := by
  unfold upto; simp [winRow]; omega
theorem upto_lt {n t d : Nat} (ht : t < n) (hd : d ≤ t) : (upto t d).length < (wins n).length := by
  have h1 := (upto_pre (k := d + 1) ht).length_le
  rw [upto_length (by omega)] at h1
  rw [upto_length (by omega)]
  omega

set_option maxRecDepth 100000 in
set_option maxHeartbeats 1000000 in
theorem win_stops (n m Bn : Nat) (hn : n ≤ 31) (hm : 1 ≤ m) (w : World) (hB : w.cell? ⟨Bn, 0, none⟩ = some (.int .i64 n)) :
    SeqStopsK Fence.wide m Try.prog 33 #[.pointer (some ⟨Bn, 0, none⟩)] (encW n) (fun _ _ => True) (fun xs => xs.map Subtype.val = wins n) (fun pre => pre.map Subtype.val <+: wins n) (wins n).length w := fun l J Jx W hW _ _ hY h0 => by
  have hB' := (hW.cell (p := ⟨Bn, 0, none⟩) (cell_lt5 hB)).trans hB
  have HY := Lib.hid hY
  have H0 := Lib.hid h0
  clear hY h0 hB hW
  refine callsIn_of_wp Try.func33 rfl trivial ?_ rfl
  simp only [Try.ntmps33, List.size_toArray, List.length_cons, List.length_nil, Nat.reduceAdd, Nat.reduceSub, Array.replicate_succ, Array.replicate_zero, List.push_toArray, List.append_toArray, List.nil_append, List.cons_append]
  gi_wp2
  gi_loopw [6] (fun v wr => ∃ (t : Nat) (pre : List (Win n)), t ≤ n ∧ v = .int .i64 t ∧ pre.map Subtype.val = wins t ∧ J pre wr) (fun v _ => n - (intOf v).toNat)
  case atStart => exact ⟨0, [], Nat.zero_le _, rfl, rfl, H0.out⟩
  case round =>
    obtain ⟨t, pre, ht, rfl, hp, hJ⟩ := hrel
    have HP := Lib.hid hp
    have HJ := Lib.hid hJ
    clear hp hJ
    by_cases htn : t < n
    · have htI : (t : Int) < (n : Int) := by omega
      gi_wp2
      gi_loopw [4] (fun v wr => ∃ (d : Nat) (pre : List (Win n)), d ≤ t + 1 ∧ v = .int .i64 ((t : Int) - (d : Int)) ∧ pre.map Subtype.val = upto t d ∧ J pre wr) (fun v _ => (intOf v + 1).toNat)
      case atStart => exact ⟨0, pre, Nat.zero_le _, by simp, by rw [upto_zero]; exact HP.out, HJ.out⟩
      case round =>
        obtain ⟨d, pr, hd, rfl, hq, hJ⟩ := hrel
        have HQ := Lib.hid hq
        have HK := Lib.hid hJ
        clear hq hJ
        by_cases hdt : d ≤ t
        · have hdI : (0 : Int) ≤ (t : Int) - (d : Int) := by omega
          obtain ⟨fn, tmps, assign, body, hy, hR⟩ := HY.out pr ⟨(t - d, t), by simp; omega⟩ wr HK.out (by have := congrArg List.length HQ.out; rw [List.length_map] at this; rw [this]; exact upto_lt htn hdt)
          simp only [encW] at hy
          rw [show ((t - d : Nat) : Int) = (t : Int) - (d : Int) by omega] at hy
          gi_wp2
          refine hR.mono ?_
          rintro e W3 (⟨rfl, hJ3, -⟩ | ⟨rfl, hJx3⟩)
          · have HJ3 := Lib.hid hJ3
            clear hJ3 hy
            gi_wp2
            go_roundw
            case rel => exact ⟨d + 1, _, by omega, by congr 1; omega, by rw [List.map_append, HQ.out, upto_succ hdt]; rfl, HJ3.out⟩
            case measure => simp [intOf]; omega
          · have HJ3 := Lib.hid hJx3
            clear hJx3 hy
            gi_wp2
            refine bodyPost_ret (results_none rfl _ _ _) rfl ?_
            exact ⟨⟨_, rfl⟩, .inr ⟨_, by rw [List.map_append, HQ.out]; have := upto_pre (k := d + 1) htn; rw [upto_succ hdt] at this; exact this, HJ3.out⟩⟩
        · have hdI : ¬ ((0 : Int) ≤ (t : Int) - (d : Int)) := by omega
          obtain rfl : d = t + 1 := by omega
          gi_wp2
          go_roundw
          case rel => exact ⟨t + 1, pr, by omega, by go_num, by rw [HQ.out, upto_all], HK.out⟩
          case measure => simp [intOf]; omega
    · have htI : ¬ ((t : Int) < (n : Int)) := by omega
      obtain rfl : t = n := by omega
      gi_wp2
      go_end0
      exact ⟨⟨_, rfl⟩, .inl ⟨pre, HP.out, HJ.out⟩⟩
end Go.Proofs.Ytdkkoeiceaolnaa
