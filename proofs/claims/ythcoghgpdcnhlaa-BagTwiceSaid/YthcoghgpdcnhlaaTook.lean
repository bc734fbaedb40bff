/-
  The bag's Take (package bag), by contracts: where there is no such place, and where there is one.
-/
import Derived.Test.YthcoghgpdcnhlaaBlock
import Derived.Deep.DeepCutAuto
namespace Go.Proofs.Ythcoghgpdcnhlaa
open Go.RowKit

/-- All but the one at the place i. -/
def rest (l : List M) (i : Nat) : List M := l.take i ++ l.drop (i + 1)
theorem kp_rest (l : List M) (i : Nat) (h : i < l.length) : kp (fun p _ => p != (i : Int)) l l.length = rest l i := by
  rw [kp_take _ _ _ (Nat.le_refl _), List.take_length, show min l.length i = i by omega]; rfl

set_option maxRecDepth 100000 in
set_option maxHeartbeats 2000000 in
theorem take_no (b : Nat) (row : Option Nat) (l : List M) (i : Int) (w : World) (hB : Bg w b row l) (hi : ¬ has l i) :
    Calls Try.prog 11 #[.pointer (some ⟨b, 0, none⟩), .int .i64 i] w fun e w' => e = .returned (.tuple #[M.zero.val, .int .i64 3]) ∧ ∃ row', Bg w' b row' l ∧ RowOk row row' w ∧ Fr b row w w' := by
  have hbl := hB.lt
  have HB := Lib.hid hB
  have hrow : ∀ g, row = some g → g < w.heap.size := fun _ hg => (hB.row_lt hg).2
  obtain ⟨s, hs, -⟩ := hB
  have hb0 : Below w.heap.size w ((w.alloc (.cells #[.int .i64 i] 3)).alloc (.cells M.zero.cells 31)) := ((Below.refl _ _).alloc (Nat.le_refl _) _).alloc (by simp) _
  have hR0 : MB ((w.alloc (.cells #[.int .i64 i] 3)).alloc (.cells M.zero.cells 31)) (w.heap.size + 1) M.zero := by
    have := MB.fresh (w.alloc (.cells #[.int .i64 i] 3)) M.zero
    simpa using this
  have hz0 : ((w.alloc (.cells #[.int .i64 i] 3)).alloc (.cells M.zero.cells 31)).heap.size = w.heap.size + 2 := by simp
  have hi0 : ((w.alloc (.cells #[.int .i64 i] 3)).alloc (.cells M.zero.cells 31)).cell? ⟨w.heap.size, 0, none⟩ = some (.int .i64 i) := by simp
  have HAT := Lib.hid (fun W (h : Below w.heap.size w W) => at_no _ _ l i W (HB.out.below h) (not_has hi))
  go_enter Try.func11, Try.ntmps11
  go_upto_region 1 with fail
  generalize (w.alloc (.cells #[.int .i64 i] 3)).alloc (.cells M.zero.cells 31) = w0 at hb0 hR0 hz0 hi0 ⊢
  have HB0 := Lib.hid hb0
  have HR0 := Lib.hid hR0
  have HI0 := Lib.hid hi0
  have hba : Below w0.heap.size w0 w0.drew := (Below.refl _ _).drew
  have hbb : Below w0.heap.size w0 (w0.alloc (.cells M.zero.cells 31)).drew := ((Below.refl _ _).alloc (Nat.le_refl _) _).drew
  have Ha := Lib.hid (HAT.out _ (hb0.trans (hba.mono (by omega))))
  have Hb := Lib.hid (HAT.out _ (hb0.trans (hbb.mono (by omega))))
  have HBa := Lib.hid hba
  have HBb := Lib.hid hbb
  have HXb := Lib.hid (show MB (w0.alloc (.cells M.zero.cells 31)).drew (w.heap.size + 2) M.zero from by have := MB.fresh w0 M.zero; rw [hz0] at this; exact this)
  clear hba hbb hb0 hR0
  go_cut [6, 7] (fun s6 s7 wx => ∃ X : Nat, s6 = .pointer (some ⟨X, 0, none⟩) ∧ s7 = .bool false ∧ w0.heap.size ≤ X ∧ MB wx X M.zero ∧ Below w0.heap.size w0 wx)
  case first =>
    go_region_with (go_at_call 26; first
      | (with_reducible refine Ha.out.mono ?_; rintro e w1 ⟨rfl, hb1⟩; have H1 := Lib.hid (HBa.out.trans (hb1.mono (by simp))); clear hb1)
      | (with_reducible refine Hb.out.mono ?_; rintro e w1 ⟨rfl, hb1⟩; have H1 := Lib.hid (HBb.out.trans (hb1.mono (by simp))); have HX4 := Lib.hid (HXb.out.below hb1); (obtain ⟨c0, c1, c2, c3, c4, c5, c6, c7⟩ := HX4.out.mat.all); have f0 := HX4.out.free 0; have f1 := HX4.out.free 1; have f2 := HX4.out.free 2; have f3 := HX4.out.free 3; have f4 := HX4.out.free 4; have f5 := HX4.out.free 5; have f6 := HX4.out.free 6; have f7 := HX4.out.free 7; clear hb1)
      | fail)
    all_goals go_wp2_with fail
    all_goals go_meet
    all_goals first
      | exact ⟨_, rfl, rfl, H1.out.size, MB.fresh w1 M.zero, H1.out.alloc H1.out.size _⟩
      | exact ⟨_, rfl, rfl, by omega, HX4.out.eight M.zero, below_eight H1.out (by omega) M.zero⟩
      | fail
  case rest =>
    obtain ⟨X, rfl, rfl, hX, hmx, hbx⟩ := hcut
    have HBX := Lib.hid (HB0.out.trans (hbx.mono (by omega)))
    have HRX := Lib.hid (HR0.out.below hbx)
    have HIX := Lib.hid ((hbx.cell (p := ⟨w.heap.size, 0, none⟩) (by simp; omega)).trans HI0.out)
    have HMX := Lib.hid hmx
    clear hbx hmx Ha Hb HBa HBb HXb HAT hi0
    go_wp2_with (with_reducible show wpList _ _ _ (Oper.mk none (Op.store 31 (.tmp 4) _) _ _ _ _ :: _) _ _; refine wpList_store_msg rfl (.tmp 4) (.tmp 18) rfl (w.heap.size + 1) M.zero M.zero rfl rfl HRX.out ?_; intro wF hMF hFF hzF; (obtain ⟨k0, k1, k2, k3, k4, k5, k6, k7⟩ := hMF.mat.all); have HFF := Lib.hid hFF; clear hMF hFF hzF)
    refine bodyPost_ret (v := .tuple #[M.zero.val, .int .i64 3]) (by simp [results, Try.results11, go_sem, k0, k1, k2, k3, k4, k5, k6, k7]) rfl ⟨rfl, row, ?_, .inl rfl, ?_⟩
    · exact (HB.out.below HBX.out).fr HFF.out (by omega) (by simp) (fun g hg => ⟨by have := hrow g hg; omega, by simp⟩)
    · exact ⟨HFF.out.os.trans HBX.out.os, HFF.out.tape.trans HBX.out.tape, HFF.out.output.trans HBX.out.output, Nat.le_trans HBX.out.size HFF.out.size, fun k hk _ _ => (HFF.out.block k (by have := HBX.out.size; omega) (by omega) (by simp)).trans (HBX.out.block k hk)⟩

set_option maxRecDepth 100000 in
set_option maxHeartbeats 2000000 in
theorem take_yes (b : Nat) (row : Option Nat) (l : List M) (n : Nat) (i : Int) (m : M) (w : World) (hB : Bg w b row l) (hi : l[n]? = some m) (hn : (n : Int) = i) (hl : l.length ≤ 900) :
    Calls Try.prog 11 #[.pointer (some ⟨b, 0, none⟩), .int .i64 i] w fun e w' => e = .returned (.tuple #[m.val, .int .i64 0]) ∧ ∃ row', Bg w' b row' (rest l n) ∧ RowOk row row' w ∧ Fr b row w w' := by
  have hnl : n < l.length := (List.getElem?_eq_some_iff.1 hi).1
  have HKP := Lib.hid (show kp (fun p _ => p != i) l l.length = rest l n by rw [← hn]; exact kp_rest l n hnl)
  have HN := Lib.hid hn
  clear hn
  have hbl := hB.lt
  have HB := Lib.hid hB
  have hrow : ∀ g, row = some g → g < w.heap.size := fun _ hg => (hB.row_lt hg).2
  obtain ⟨s, hs, -⟩ := hB
  have hb0 : Below w.heap.size w ((w.alloc (.cells #[.int .i64 i] 3)).alloc (.cells M.zero.cells 31)) := ((Below.refl _ _).alloc (Nat.le_refl _) _).alloc (by simp) _
  have hR0 : MB ((w.alloc (.cells #[.int .i64 i] 3)).alloc (.cells M.zero.cells 31)) (w.heap.size + 1) M.zero := by
    have := MB.fresh (w.alloc (.cells #[.int .i64 i] 3)) M.zero
    simpa using this
  have hz0 : ((w.alloc (.cells #[.int .i64 i] 3)).alloc (.cells M.zero.cells 31)).heap.size = w.heap.size + 2 := by simp
  have hi0 : ((w.alloc (.cells #[.int .i64 i] 3)).alloc (.cells M.zero.cells 31)).cell? ⟨w.heap.size, 0, none⟩ = some (.int .i64 i) := by simp
  have HAT := Lib.hid (fun W (h : Below w.heap.size w W) => HN.out ▸ at_yes _ _ l n m W (HB.out.below h) hi (by omega))
  go_enter Try.func11, Try.ntmps11
  go_upto_region 1 with fail
  generalize (w.alloc (.cells #[.int .i64 i] 3)).alloc (.cells M.zero.cells 31) = w0 at hb0 hR0 hz0 hi0 ⊢
  have HB0 := Lib.hid hb0
  have HR0 := Lib.hid hR0
  have HI0 := Lib.hid hi0
  have hba : Below w0.heap.size w0 w0.drew := (Below.refl _ _).drew
  have hbb : Below w0.heap.size w0 (w0.alloc (.cells M.zero.cells 31)).drew := ((Below.refl _ _).alloc (Nat.le_refl _) _).drew
  have Ha := Lib.hid (HAT.out _ (hb0.trans (hba.mono (by omega))))
  have Hb := Lib.hid (HAT.out _ (hb0.trans (hbb.mono (by omega))))
  have HBa := Lib.hid hba
  have HBb := Lib.hid hbb
  have HXb := Lib.hid (show MB (w0.alloc (.cells M.zero.cells 31)).drew (w.heap.size + 2) M.zero from by have := MB.fresh w0 M.zero; rw [hz0] at this; exact this)
  clear hba hbb hb0 hR0
  go_cut [6, 7] (fun s6 s7 wx => ∃ X : Nat, s6 = .pointer (some ⟨X, 0, none⟩) ∧ s7 = .bool true ∧ w0.heap.size ≤ X ∧ MB wx X m ∧ Below w0.heap.size w0 wx)
  case first =>
    go_region_with (go_at_call 26; first
      | (with_reducible refine Ha.out.mono ?_; rintro e w1 ⟨rfl, hb1⟩; have H1 := Lib.hid (HBa.out.trans (hb1.mono (by simp))); clear hb1)
      | (with_reducible refine Hb.out.mono ?_; rintro e w1 ⟨rfl, hb1⟩; have H1 := Lib.hid (HBb.out.trans (hb1.mono (by simp))); have HX4 := Lib.hid (HXb.out.below hb1); (obtain ⟨c0, c1, c2, c3, c4, c5, c6, c7⟩ := HX4.out.mat.all); have f0 := HX4.out.free 0; have f1 := HX4.out.free 1; have f2 := HX4.out.free 2; have f3 := HX4.out.free 3; have f4 := HX4.out.free 4; have f5 := HX4.out.free 5; have f6 := HX4.out.free 6; have f7 := HX4.out.free 7; clear hb1)
      | fail)
    all_goals go_wp2_with fail
    all_goals go_meet
    all_goals first
      | exact ⟨_, rfl, rfl, H1.out.size, MB.fresh w1 m, H1.out.alloc H1.out.size _⟩
      | exact ⟨_, rfl, rfl, by omega, HX4.out.eight m, below_eight H1.out (by omega) m⟩
      | fail
  case rest =>
    obtain ⟨X, rfl, rfl, hX, hmx, hbx⟩ := hcut
    have HBX := Lib.hid (HB0.out.trans (hbx.mono (by omega)))
    have HRX := Lib.hid (HR0.out.below hbx)
    have HIX := Lib.hid ((hbx.cell (p := ⟨w.heap.size, 0, none⟩) (by simp; omega)).trans HI0.out)
    have HMX := Lib.hid hmx
    clear hbx hmx Ha Hb HBa HBb HXb HAT hi0
    go_wp2_with fail
    go_at_call 27
    refine (keep_take _ _ _ l i _ (HB.out.below HBX.out) (by omega) HIX.out).mono ?_
    rw [HKP.out]
    rintro e w2 ⟨rfl, r2, hB2, hr2, hf2⟩
    have hsz := HBX.out.size
    have HR2 := Lib.hid (HRX.out.fr hf2 (by omega) (fun e => by have := hrow _ e.symm; omega))
    have HM2 := Lib.hid (HMX.out.fr hf2 (by omega) (fun e => by have := hrow _ e.symm; omega))
    obtain ⟨x0, x1, x2, x3, x4, x5, x6, x7⟩ := HM2.out.mat.all
    have HB2 := Lib.hid hB2
    have HR2' := Lib.hid hr2
    have HF2 := Lib.hid hf2
    clear hB2 hr2 hf2
    go_wp2_with (with_reducible show wpList _ _ _ (Oper.mk none (Op.store 31 (.tmp 4) _) _ _ _ _ :: _) _ _; refine wpList_store_msg rfl (.tmp 4) (.tmp 24) rfl (w.heap.size + 1) m M.zero rfl rfl HR2.out ?_; intro wF hMF hFF hzF; (obtain ⟨k0, k1, k2, k3, k4, k5, k6, k7⟩ := hMF.mat.all); have HFF := Lib.hid hFF; clear hMF hFF hzF)
    have hrok := HR2'.out.after HBX.out
    have hfr := HF2.out.after HBX.out
    refine bodyPost_ret (v := .tuple #[m.val, .int .i64 0]) (by simp [results, Try.results11, go_sem, k0, k1, k2, k3, k4, k5, k6, k7]) rfl ⟨rfl, r2, ?_, hrok, ?_⟩
    · refine HB2.out.fr HFF.out (by omega) (by simp) (fun g hg => ⟨?_, by simp⟩)
      rcases HR2'.out with h | h | ⟨g', h, hg'⟩
      · have := hrow g (h ▸ hg); omega
      · rw [h] at hg; simp at hg
      · rw [h] at hg; injection hg with hg; have := HRX.out.lt; omega
    · have hs2 := HF2.out.size
      exact ⟨HFF.out.os.trans hfr.os, HFF.out.tape.trans hfr.tape, HFF.out.output.trans hfr.output, Nat.le_trans hfr.size HFF.out.size, fun k hk h1 h2 => (HFF.out.block k (by omega) (by omega) (by simp)).trans (hfr.block k hk h1 h2)⟩
end Go.Proofs.Ythcoghgpdcnhlaa
