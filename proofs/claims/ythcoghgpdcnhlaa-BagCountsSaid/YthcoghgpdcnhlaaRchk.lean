/-
  The document's own Check (weirkeepref03), by a contract; when two messages are the same.
-/
import Derived.Test.YthcoghgpdcnhlaaChk
import Derived.Laws.StructEq
namespace Go.Proofs.Ythcoghgpdcnhlaa
open Go.RowKit

theorem str_inj {a b : ByteArray} (h : a.toList = b.toList) : a = b := by
  rw [ByteArray.toList_eq, ByteArray.toList_eq] at h
  exact ByteArray.ext (Array.toList_inj.1 h)
theorem str_ne {a b : ByteArray} (h : a ≠ b) : (a.toList == b.toList) = false := by
  simp only [beq_eq_false_iff_ne, ne_eq]; exact fun e => h (str_inj e)
def inB (n k : Int) : Bool := decide (0 ≤ n) && decide (n ≤ k)
theorem inB_iff {n k : Int} : inB n k = true ↔ 0 ≤ n ∧ n ≤ k := by simp [inB]
theorem in_any (n k : Int) (w : World) :
    Calls Try.prog 46 #[.int .i64 n, .int .i64 k] w fun e w' => e = .returned (.bool (inB n k)) ∧ w = w' := by
  by_cases h0 : 0 ≤ n
  · by_cases h1 : n ≤ k
    · have e : inB n k = true := inB_iff.2 ⟨h0, h1⟩
      rw [e]
      go_enter Try.func46, Try.ntmps46
      go_wp2
      go_ret
      exact ⟨rfl, rfl⟩
    · have e : inB n k = false := by simp [inB]; omega
      rw [e]
      go_enter Try.func46, Try.ntmps46
      go_wp2
      go_ret
      exact ⟨rfl, rfl⟩
  · have e : inB n k = false := by simp [inB]; omega
    rw [e]
    go_enter Try.func46, Try.ntmps46
    go_wp2
    go_ret
    exact ⟨rfl, rfl⟩
theorem M.chk_in (m : M) : m.chk = if inB m.kind 255 = true ∧ inB m.src 7 = true ∧ inB m.dst 7 = true ∧ inB m.epoch 1099511627776 = true ∧ inB m.seq 1099511627776 = true ∧ inB m.off 256 = true ∧ inB m.len 256 = true then (if m.data.size ≤ 1024 then 0 else 11) else 1 := by
  unfold M.chk
  simp only [inB_iff]
  congr 1
  apply propext
  constructor
  · intro h; refine ⟨?_, ?_, ?_, ?_, ?_, ?_, ?_⟩ <;> omega
  · intro h; omega
theorem rchk_bad0 (m : M) (w : World)  (h : inB m.kind 255 = false) :
    Calls Try.prog 40 #[m.val] w fun e w' => e = .returned (.int .i64 1) ∧ Below w.heap.size w w' := by
  go_enter Try.func40, Try.ntmps40
  go_wp2_with (go_at_call 46; refine (in_any _ _ _).mono ?_; rintro e w' ⟨rfl, rfl⟩)
  go_ret
  exact ⟨rfl, by go_grown⟩
theorem rchk_bad1 (m : M) (w : World) (h0 : inB m.kind 255 = true) (h : inB m.src 7 = false) :
    Calls Try.prog 40 #[m.val] w fun e w' => e = .returned (.int .i64 1) ∧ Below w.heap.size w w' := by
  go_enter Try.func40, Try.ntmps40
  go_wp2_with (go_at_call 46; refine (in_any _ _ _).mono ?_; rintro e w' ⟨rfl, rfl⟩)
  go_ret
  exact ⟨rfl, by go_grown⟩
theorem rchk_bad2 (m : M) (w : World) (h0 : inB m.kind 255 = true) (h1 : inB m.src 7 = true) (h : inB m.dst 7 = false) :
    Calls Try.prog 40 #[m.val] w fun e w' => e = .returned (.int .i64 1) ∧ Below w.heap.size w w' := by
  go_enter Try.func40, Try.ntmps40
  go_wp2_with (go_at_call 46; refine (in_any _ _ _).mono ?_; rintro e w' ⟨rfl, rfl⟩)
  go_ret
  exact ⟨rfl, by go_grown⟩
theorem rchk_bad3 (m : M) (w : World) (h0 : inB m.kind 255 = true) (h1 : inB m.src 7 = true) (h2 : inB m.dst 7 = true) (h : inB m.epoch 1099511627776 = false) :
    Calls Try.prog 40 #[m.val] w fun e w' => e = .returned (.int .i64 1) ∧ Below w.heap.size w w' := by
  go_enter Try.func40, Try.ntmps40
  go_wp2_with (go_at_call 46; refine (in_any _ _ _).mono ?_; rintro e w' ⟨rfl, rfl⟩)
  go_ret
  exact ⟨rfl, by go_grown⟩
theorem rchk_bad4 (m : M) (w : World) (h0 : inB m.kind 255 = true) (h1 : inB m.src 7 = true) (h2 : inB m.dst 7 = true) (h3 : inB m.epoch 1099511627776 = true) (h : inB m.seq 1099511627776 = false) :
    Calls Try.prog 40 #[m.val] w fun e w' => e = .returned (.int .i64 1) ∧ Below w.heap.size w w' := by
  go_enter Try.func40, Try.ntmps40
  go_wp2_with (go_at_call 46; refine (in_any _ _ _).mono ?_; rintro e w' ⟨rfl, rfl⟩)
  go_ret
  exact ⟨rfl, by go_grown⟩
theorem rchk_bad5 (m : M) (w : World) (h0 : inB m.kind 255 = true) (h1 : inB m.src 7 = true) (h2 : inB m.dst 7 = true) (h3 : inB m.epoch 1099511627776 = true) (h4 : inB m.seq 1099511627776 = true) (h : inB m.off 256 = false) :
    Calls Try.prog 40 #[m.val] w fun e w' => e = .returned (.int .i64 1) ∧ Below w.heap.size w w' := by
  go_enter Try.func40, Try.ntmps40
  go_wp2_with (go_at_call 46; refine (in_any _ _ _).mono ?_; rintro e w' ⟨rfl, rfl⟩)
  go_ret
  exact ⟨rfl, by go_grown⟩
theorem rchk_bad6 (m : M) (w : World) (h0 : inB m.kind 255 = true) (h1 : inB m.src 7 = true) (h2 : inB m.dst 7 = true) (h3 : inB m.epoch 1099511627776 = true) (h4 : inB m.seq 1099511627776 = true) (h5 : inB m.off 256 = true) (h : inB m.len 256 = false) :
    Calls Try.prog 40 #[m.val] w fun e w' => e = .returned (.int .i64 1) ∧ Below w.heap.size w w' := by
  go_enter Try.func40, Try.ntmps40
  go_wp2_with (go_at_call 46; refine (in_any _ _ _).mono ?_; rintro e w' ⟨rfl, rfl⟩)
  go_ret
  exact ⟨rfl, by go_grown⟩
theorem rchk_ok (m : M) (w : World) (h0 : inB m.kind 255 = true) (h1 : inB m.src 7 = true) (h2 : inB m.dst 7 = true) (h3 : inB m.epoch 1099511627776 = true) (h4 : inB m.seq 1099511627776 = true) (h5 : inB m.off 256 = true) (h6 : inB m.len 256 = true) (hs : m.data.size ≤ 1024) :
    Calls Try.prog 40 #[m.val] w fun e w' => e = .returned (.int .i64 0) ∧ Below w.heap.size w w' := by
  have hsI : (m.data.size : Int) ≤ 1024 := by omega
  go_enter Try.func40, Try.ntmps40
  go_wp2_with (go_at_call 46; refine (in_any _ _ _).mono ?_; rintro e w' ⟨rfl, rfl⟩)
  go_ret
  exact ⟨rfl, by go_grown⟩
theorem rchk_long (m : M) (w : World) (h0 : inB m.kind 255 = true) (h1 : inB m.src 7 = true) (h2 : inB m.dst 7 = true) (h3 : inB m.epoch 1099511627776 = true) (h4 : inB m.seq 1099511627776 = true) (h5 : inB m.off 256 = true) (h6 : inB m.len 256 = true) (hs : ¬ m.data.size ≤ 1024) :
    Calls Try.prog 40 #[m.val] w fun e w' => e = .returned (.int .i64 11) ∧ Below w.heap.size w w' := by
  have hsI : (1024 : Int) < (m.data.size : Int) := by omega
  go_enter Try.func40, Try.ntmps40
  go_wp2_with (go_at_call 46; refine (in_any _ _ _).mono ?_; rintro e w' ⟨rfl, rfl⟩)
  go_ret
  exact ⟨rfl, by go_grown⟩
theorem rcheck_any (m : M) (w : World) :
    Calls Try.prog 40 #[m.val] w fun e w' => e = .returned (.int .i64 m.chk) ∧ Below w.heap.size w w' := by
  by_cases h0 : inB m.kind 255 = true
  case neg =>
    have hc : m.chk = 1 := by rw [m.chk_in, if_neg]; intro h; exact h0 h.1
    rw [hc]; exact rchk_bad0 m w  (by simpa using h0)
  by_cases h1 : inB m.src 7 = true
  case neg =>
    have hc : m.chk = 1 := by rw [m.chk_in, if_neg]; intro h; exact h1 h.2.1
    rw [hc]; exact rchk_bad1 m w h0 (by simpa using h1)
  by_cases h2 : inB m.dst 7 = true
  case neg =>
    have hc : m.chk = 1 := by rw [m.chk_in, if_neg]; intro h; exact h2 h.2.2.1
    rw [hc]; exact rchk_bad2 m w h0 h1 (by simpa using h2)
  by_cases h3 : inB m.epoch 1099511627776 = true
  case neg =>
    have hc : m.chk = 1 := by rw [m.chk_in, if_neg]; intro h; exact h3 h.2.2.2.1
    rw [hc]; exact rchk_bad3 m w h0 h1 h2 (by simpa using h3)
  by_cases h4 : inB m.seq 1099511627776 = true
  case neg =>
    have hc : m.chk = 1 := by rw [m.chk_in, if_neg]; intro h; exact h4 h.2.2.2.2.1
    rw [hc]; exact rchk_bad4 m w h0 h1 h2 h3 (by simpa using h4)
  by_cases h5 : inB m.off 256 = true
  case neg =>
    have hc : m.chk = 1 := by rw [m.chk_in, if_neg]; intro h; exact h5 h.2.2.2.2.2.1
    rw [hc]; exact rchk_bad5 m w h0 h1 h2 h3 h4 (by simpa using h5)
  by_cases h6 : inB m.len 256 = true
  case neg =>
    have hc : m.chk = 1 := by rw [m.chk_in, if_neg]; intro h; exact h6 h.2.2.2.2.2.2
    rw [hc]; exact rchk_bad6 m w h0 h1 h2 h3 h4 h5 (by simpa using h6)
  by_cases hs : m.data.size ≤ 1024
  · have hc : m.chk = 0 := by rw [m.chk_in, if_pos ⟨h0, h1, h2, h3, h4, h5, h6⟩, if_pos hs]
    rw [hc]; exact rchk_ok m w h0 h1 h2 h3 h4 h5 h6 hs
  · have hc : m.chk = 11 := by rw [m.chk_in, if_pos ⟨h0, h1, h2, h3, h4, h5, h6⟩, if_neg hs]
    rw [hc]; exact rchk_long m w h0 h1 h2 h3 h4 h5 h6 hs

theorem msg_same (m : M) (w : World) : (binOp .eql 31 m.val m.val).run Try.prog w = .ok (.bool true) w := by
  have hg : Try.prog.stoodInHeld 31 = false := by kernel_rfl
  have hf : Try.prog.underlying 31 = some (.struct (Try.prog.fieldsOf 31)) := by kernel_rfl
  rw [run_eql_struct, run_equalIn_struct w 9999 31 _ _ hf hg]
  simp [go_sem, Try.underlying31, Try.underlying3, Try.underlying9]
theorem msg_sameN (m : M) (w : World) : (binOp .neq 31 m.val m.val).run Try.prog w = .ok (.bool false) w := by
  have hg : Try.prog.stoodInHeld 31 = false := by kernel_rfl
  have hf : Try.prog.underlying 31 = some (.struct (Try.prog.fieldsOf 31)) := by kernel_rfl
  rw [run_neq_struct, run_equalIn_struct w 9999 31 _ _ hf hg]
  simp [go_sem, Try.underlying31, Try.underlying3, Try.underlying9]
theorem msg_other (m n : M) (w : World) (h : m ≠ n) : (binOp .eql 31 m.val n.val).run Try.prog w = .ok (.bool false) w := by
  have hg : Try.prog.stoodInHeld 31 = false := by kernel_rfl
  have hf : Try.prog.underlying 31 = some (.struct (Try.prog.fieldsOf 31)) := by kernel_rfl
  rw [run_eql_struct, run_equalIn_struct w 9999 31 _ _ hf hg]
  obtain ⟨a0, a1, a2, a3, a4, a5, a6, a7⟩ := m
  obtain ⟨b0, b1, b2, b3, b4, b5, b6, b7⟩ := n
  by_cases h0 : a0 = b0
  case neg => simp [go_sem, Try.underlying31, Try.underlying3, Try.underlying9, h0]
  by_cases h1 : a1 = b1
  case neg => simp [go_sem, Try.underlying31, Try.underlying3, Try.underlying9, h0, h1]
  by_cases h2 : a2 = b2
  case neg => simp [go_sem, Try.underlying31, Try.underlying3, Try.underlying9, h0, h1, h2]
  by_cases h3 : a3 = b3
  case neg => simp [go_sem, Try.underlying31, Try.underlying3, Try.underlying9, h0, h1, h2, h3]
  by_cases h4 : a4 = b4
  case neg => simp [go_sem, Try.underlying31, Try.underlying3, Try.underlying9, h0, h1, h2, h3, h4]
  by_cases h5 : a5 = b5
  case neg => simp [go_sem, Try.underlying31, Try.underlying3, Try.underlying9, h0, h1, h2, h3, h4, h5]
  by_cases h6 : a6 = b6
  case neg => simp [go_sem, Try.underlying31, Try.underlying3, Try.underlying9, h0, h1, h2, h3, h4, h5, h6]
  have h7 : (a7.toList == b7.toList) = false := str_ne (fun e => h (by rw [h0, h1, h2, h3, h4, h5, h6, e]))
  simp [go_sem, Try.underlying31, Try.underlying3, Try.underlying9, h0, h1, h2, h3, h4, h5, h6, h7]
theorem msg_otherN (m n : M) (w : World) (h : m ≠ n) : (binOp .neq 31 m.val n.val).run Try.prog w = .ok (.bool true) w := by
  have h1 := msg_other m n w h
  rw [run_eql_struct] at h1
  rw [run_neq_struct]
  revert h1
  generalize Sem.run Try.prog (Op.equalIn 10000 31 _ _) w = r
  intro h1
  cases r <;> simp_all [Result.andThen]
/-- Are two messages the same? -/
def M.eqb (a b : M) : Bool := a.kind == b.kind && a.src == b.src && a.dst == b.dst && a.epoch == b.epoch && a.seq == b.seq && a.off == b.off && a.len == b.len && decide (a.data = b.data)
theorem M.eqb_iff {a b : M} : a.eqb b = true ↔ a = b := by
  obtain ⟨a0, a1, a2, a3, a4, a5, a6, a7⟩ := a
  obtain ⟨b0, b1, b2, b3, b4, b5, b6, b7⟩ := b
  simp [M.eqb, and_assoc]
theorem M.eqb_self (a : M) : a.eqb a = true := M.eqb_iff.2 rfl
theorem M.eqb_ne {a b : M} : a.eqb b = false ↔ a ≠ b := by
  rw [← Bool.not_eq_true, M.eqb_iff]
theorem msg_eq (m n : M) (w : World) : (binOp .eql 31 m.val n.val).run Try.prog w = .ok (.bool (m.eqb n)) w := by
  by_cases h : m = n
  · subst h; rw [M.eqb_self]; exact msg_same m w
  · rw [M.eqb_ne.2 h]; exact msg_other m n w h
theorem msg_neq (m n : M) (w : World) : (binOp .neq 31 m.val n.val).run Try.prog w = .ok (.bool (!m.eqb n)) w := by
  by_cases h : m = n
  · subst h; rw [M.eqb_self]; exact msg_sameN m w
  · rw [M.eqb_ne.2 h]; exact msg_otherN m n w h
end Go.Proofs.Ythcoghgpdcnhlaa
