/-
  WireReplies, walked.
-/
import Derived.Test.YtjgicapjbibioaaReply
import Derived.Laws.StructEq
import Derived.Deep.RegionHeld3
namespace Go.Proofs.Ytjgicapjbibioaa
open Go.RowKit

set_option maxRecDepth 100000 in
theorem replies_out (m : M) (a b : Int) (w : World) (hs : 4096 < m.data.size) :
    Calls Try.prog 3 #[m.val, .int .i64 a, .int .i64 b] w fun e w' => e = .returned (.bool true) ∧ Below w.heap.size w w' := by
  have hsI : (4096 : Int) < (m.data.size : Int) := by omega
  go_enter Try.func3, Try.ntmps3
  go_wp2
  go_ret
  exact ⟨rfl, by go_grown⟩

/-- Two messages that are one are equal. -/
theorem msg_refl (m : M) (w : World) : (binOp .eql 23 m.val m.val).run Try.prog w = .ok (.bool true) w := by
  have hg : Try.prog.stoodInHeld 23 = false := by kernel_rfl
  have hf : Try.prog.underlying 23 = some (.struct (Try.prog.fieldsOf 23)) := by kernel_rfl
  rw [run_eql_struct, run_equalIn_struct w 9999 23 _ _ hf hg]
  simp [go_sem, Try.underlying23, Try.underlying3, Try.underlying9]
/-- The cells of a message, one by one. -/
theorem Mat.all {w : World} {b : Nat} {m : M} (h : Mat w b m) : w.cell? ⟨b, 0, none⟩ = some (.int .i64 m.kind) ∧ w.cell? ⟨b, 1, none⟩ = some (.int .i64 m.src) ∧ w.cell? ⟨b, 2, none⟩ = some (.int .i64 m.dst) ∧ w.cell? ⟨b, 3, none⟩ = some (.int .i64 m.epoch) ∧ w.cell? ⟨b, 4, none⟩ = some (.int .i64 m.seq) ∧ w.cell? ⟨b, 5, none⟩ = some (.int .i64 m.off) ∧ w.cell? ⟨b, 6, none⟩ = some (.int .i64 m.len) ∧ w.cell? ⟨b, 7, none⟩ = some (.string m.data) :=
  ⟨h.1 0 (by omega), h.1 1 (by omega), h.1 2 (by omega), h.1 3 (by omega), h.1 4 (by omega), h.1 5 (by omega), h.1 6 (by omega), h.2⟩

set_option maxRecDepth 100000 in
set_option maxHeartbeats 2000000 in
theorem replies_in (m : M) (a b : Int) (w : World) (hs : m.data.size ≤ 4096) :
    Calls Try.prog 3 #[m.val, .int .i64 a, .int .i64 b] w fun e w' => e = .returned (.bool true) ∧ Below w.heap.size w w' := by
  have hsI : (m.data.size : Int) ≤ 4096 := by omega
  have HB0 := Lib.hid (show Below w.heap.size w (w.alloc (.cells m.cells 23)) from (Below.refl _ _).alloc (Nat.le_refl _) _)
  have HM0 := Lib.hid (Mat.fresh w m 23)
  go_enter Try.func3, Try.ntmps3
  go_wp2_with fail
  go_at_call 4
  refine (reply_any m a _).mono ?_
  rintro e w1 ⟨rfl, hb1⟩
  have HM1 := Lib.hid (HM0.out.below hb1)
  have HB1 := Lib.hid (HB0.out.trans (hb1.mono HB0.out.size))
  have hz1 : w.heap.size < w1.heap.size := HM1.out.lt
  clear HM0 HB0 hb1
  have HR1 := Lib.hid (Mat.fresh w1 (m.reply a) 23)
  have HM2 := Lib.hid (HM1.out.below ((Below.refl _ _).alloc (Nat.le_refl _) (.cells (m.reply a).cells 23)))
  have HB2 := Lib.hid (show Below w.heap.size w (w1.alloc (.cells (m.reply a).cells 23)) from HB1.out.alloc (by omega) _)
  go_wp2_with fail
  go_at_call 4
  refine (reply_any (m.reply a) b _).mono ?_
  rintro e w2 ⟨rfl, hb2⟩
  have HM3 := Lib.hid (HM2.out.below hb2)
  have HR3 := Lib.hid (HR1.out.below hb2)
  have HB3 := Lib.hid (HB2.out.trans (hb2.mono HB2.out.size))
  have hz2 : w1.heap.size < w2.heap.size := HR3.out.lt
  clear HM2 HB2 hb2 HR1 HM1 HB1
  have HQ4 := Lib.hid (Mat.fresh w2 ((m.reply a).reply b) 23)
  have HM4 := Lib.hid (HM3.out.below ((Below.refl _ _).alloc (Nat.le_refl _) (.cells ((m.reply a).reply b).cells 23)))
  have HR4 := Lib.hid (HR3.out.below ((Below.refl _ _).alloc (Nat.le_refl _) (.cells ((m.reply a).reply b).cells 23)))
  have HB4 := Lib.hid (show Below w.heap.size w (w2.alloc (.cells ((m.reply a).reply b).cells 23)) from HB3.out.alloc (by omega) _)
  clear HM3 HR3 HB3
  go_wp2_with fail
  generalize w2.alloc (.cells ((m.reply a).reply b).cells 23) = w3 at HQ4 HM4 HR4 HB4 ⊢
  have hq1 := msg_refl (m.reply a)
  have hq2 := msg_refl ((m.reply a).reply b)
  have hE : (⟨-1, 0, 0, 0, 0, 0, 0, ⟨#[]⟩⟩ : M).chk = 1 := by decide
  have hbd : Below w3.heap.size w3 w3.drew := (Below.refl _ _).drew
  have HMz := Lib.hid (HM4.out.below hbd)
  have HRz := Lib.hid (HR4.out.below hbd)
  have HQz := Lib.hid (HQ4.out.below hbd)
  have HBz := Lib.hid (show Below w.heap.size w w3.drew from HB4.out.drew)
  clear hbd HM4 HR4 HQ4 HB4
  go_region_held3 (fun w' => (w'.cell? ⟨w.heap.size, 0, none⟩ = some (.int .i64 m.kind) ∧ w'.cell? ⟨w.heap.size, 1, none⟩ = some (.int .i64 m.src) ∧ w'.cell? ⟨w.heap.size, 2, none⟩ = some (.int .i64 m.dst) ∧ w'.cell? ⟨w.heap.size, 3, none⟩ = some (.int .i64 m.epoch) ∧ w'.cell? ⟨w.heap.size, 4, none⟩ = some (.int .i64 m.seq) ∧ w'.cell? ⟨w.heap.size, 5, none⟩ = some (.int .i64 m.off) ∧ w'.cell? ⟨w.heap.size, 6, none⟩ = some (.int .i64 m.len) ∧ w'.cell? ⟨w.heap.size, 7, none⟩ = some (.string m.data)) ∧ (w'.cell? ⟨w1.heap.size, 0, none⟩ = some (.int .i64 a) ∧ w'.cell? ⟨w1.heap.size, 1, none⟩ = some (.int .i64 m.dst) ∧ w'.cell? ⟨w1.heap.size, 2, none⟩ = some (.int .i64 m.src) ∧ w'.cell? ⟨w1.heap.size, 3, none⟩ = some (.int .i64 m.epoch) ∧ w'.cell? ⟨w1.heap.size, 4, none⟩ = some (.int .i64 m.seq) ∧ w'.cell? ⟨w1.heap.size, 5, none⟩ = some (.int .i64 0) ∧ w'.cell? ⟨w1.heap.size, 6, none⟩ = some (.int .i64 0) ∧ w'.cell? ⟨w1.heap.size, 7, none⟩ = some (.string ⟨#[]⟩)) ∧ (w'.cell? ⟨w2.heap.size, 0, none⟩ = some (.int .i64 b) ∧ w'.cell? ⟨w2.heap.size, 1, none⟩ = some (.int .i64 m.src) ∧ w'.cell? ⟨w2.heap.size, 2, none⟩ = some (.int .i64 m.dst) ∧ w'.cell? ⟨w2.heap.size, 3, none⟩ = some (.int .i64 m.epoch) ∧ w'.cell? ⟨w2.heap.size, 4, none⟩ = some (.int .i64 m.seq) ∧ w'.cell? ⟨w2.heap.size, 5, none⟩ = some (.int .i64 0) ∧ w'.cell? ⟨w2.heap.size, 6, none⟩ = some (.int .i64 0) ∧ w'.cell? ⟨w2.heap.size, 7, none⟩ = some (.string ⟨#[]⟩)))
    (first | exact ⟨HMz.out.all, HRz.out.all, HQz.out.all⟩ | exact ⟨HMa.out.all, HRa.out.all, HQa.out.all⟩ | exact ⟨HMb.out.all, HRb.out.all, HQb.out.all⟩ | fail)
    (first
      | (go_at_call 5; refine (rreply_any m a _).mono ?_; rintro e wa ⟨rfl, hba⟩; have HMa := Lib.hid (HMz.out.below hba); have HRa := Lib.hid (HRz.out.below hba); have HQa := Lib.hid (HQz.out.below hba); have HBa := Lib.hid (HBz.out.trans (hba.mono HBz.out.size)); clear hba)
      | (go_at_call 6; refine (check_any ⟨-1, 0, 0, 0, 0, 0, 0, ⟨#[]⟩⟩ _).mono ?_; rintro e wb ⟨rfl, hbb⟩; have HMb := Lib.hid (HMa.out.below hbb); have HRb := Lib.hid (HRa.out.below hbb); have HQb := Lib.hid (HQa.out.below hbb); have HBb := Lib.hid (HBa.out.trans (hbb.mono HBa.out.size)); clear hbb)
      | fail)
  go_wp2
  go_ret
  exact ⟨rfl, HBb.out⟩
end Go.Proofs.Ytjgicapjbibioaa
