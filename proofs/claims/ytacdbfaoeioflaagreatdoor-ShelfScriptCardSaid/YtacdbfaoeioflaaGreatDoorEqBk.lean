/-
  When two blocks are the same.
-/
import Derived.Test.YtacdbfaoeioflaaGreatDoorWrong
import Derived.Laws.StructEq
namespace Go.Proofs.YtacdbfaoeioflaaGreatDoor
open Go.RowKit

theorem bk_same (m : Bk) (w : World) : (binOp .eql 37 m.val m.val).run Tryz.prog w = .ok (.bool true) w := by
  have hg : Tryz.prog.stoodInHeld 37 = false := by kernel_rfl
  have hf : Tryz.prog.underlying 37 = some (.struct (Tryz.prog.fieldsOf 37)) := by kernel_rfl
  rw [run_eql_struct, run_equalIn_struct w 9999 37 _ _ hf hg]
  simp [go_sem, Tryz.underlying37, Tryz.underlying3, Tryz.underlying9]
theorem bk_other (m n : Bk) (w : World) (h : m ≠ n) : (binOp .eql 37 m.val n.val).run Tryz.prog w = .ok (.bool false) w := by
  have hg : Tryz.prog.stoodInHeld 37 = false := by kernel_rfl
  have hf : Tryz.prog.underlying 37 = some (.struct (Tryz.prog.fieldsOf 37)) := by kernel_rfl
  rw [run_eql_struct, run_equalIn_struct w 9999 37 _ _ hf hg]
  obtain ⟨a0, a1, a2⟩ := m
  obtain ⟨b0, b1, b2⟩ := n
  by_cases h0 : a0 = b0
  case neg => simp [go_sem, Tryz.underlying37, Tryz.underlying3, Tryz.underlying9, h0]
  by_cases h1 : a1 = b1
  case neg => simp [go_sem, Tryz.underlying37, Tryz.underlying3, Tryz.underlying9, h0, h1]
  have h7 : (a2.toList == b2.toList) = false := str_ne (fun e => h (by rw [h0, h1, e]))
  simp [go_sem, Tryz.underlying37, Tryz.underlying3, Tryz.underlying9, h0, h1, h7]
theorem bk_eq (m n : Bk) (w : World) : (binOp .eql 37 m.val n.val).run Tryz.prog w = .ok (.bool (decide (m = n))) w := by
  by_cases h : m = n
  · subst h; rw [decide_eq_true rfl]; exact bk_same m w
  · rw [decide_eq_false h]; exact bk_other m n w h
theorem bk_neq (m n : Bk) (w : World) : (binOp .neq 37 m.val n.val).run Tryz.prog w = .ok (.bool (!decide (m = n))) w := by
  have h1 := bk_eq m n w
  rw [run_eql_struct] at h1
  rw [run_neq_struct]
  revert h1
  generalize Sem.run Tryz.prog (Op.equalIn 10000 37 _ _) w = r
  intro h1
  cases r <;> simp_all [Result.andThen]
end Go.Proofs.YtacdbfaoeioflaaGreatDoor
