/-
  The document's reader (weirkeepref01), by contracts: its Num, walked.
-/
import Derived.Test.YtmmpknfkncgjpaaGreatDoorM13
namespace Go.Proofs.YtmmpknfkncgjpaaGreatDoor
open Go.RowKit Go.Extern.Stop Go.Stop Go.Extern Go.PlainAid Go.Lib

theorem Rdr.setOther {w : World} {b a : Nat} {s : ByteArray} (h : Rdr w b s a) {p : Addr} (u : Value) (hp : p.block ≠ b) : Rdr (w.setCell p u) b s a := by
  obtain ⟨h0, h1, h2⟩ := h
  exact ⟨by rw [World.cell?_setCell_other _ _ _ _ (fun e => hp (by rw [e]))]; exact h0, by rw [World.cell?_setCell_other _ _ _ _ (fun e => hp (by rw [e]))]; exact h1, by rw [World.frozen?_setCell]; exact h2⟩
theorem width8' : Width 8 := .inr (.inr (.inr rfl))
set_option maxRecDepth 100000 in
theorem rrnum_arg (b a : Nat) (s : ByteArray) (k : Int) (w : World) (hR : Rdr w b s a) (hk : ¬ Width k) :
    Calls Tryz.prog 53 #[.pointer (some ⟨b, 0, none⟩), .int .i64 k] w fun e w' => ∃ A at_, e = .returned (.tuple #[.int .i64 0, .agg #[.slice A 1 1, .int .i64 at_]]) ∧ RF w' A 1 1 [1] ∧ Below w.heap.size w w' := by
  have hres : Res (w.alloc (.cells #[.slice none 0 0, .int .i64 0] 102)) w.heap.size := ⟨by simp, by simp, by simp, by simp⟩
  have hb0 : Below w.heap.size w (w.alloc (.cells #[.slice none 0 0, .int .i64 0] 102)) := (Below.refl _ _).alloc (Nat.le_refl _) _
  have hz00 : w.heap.size < (w.alloc (.cells #[.slice none 0 0, .int .i64 0] 102)).heap.size := by simp
  have hbl := hR.lt
  have HR := Lib.hid (hR.below hb0)
  have HS := Lib.hid hres
  have HB0 := Lib.hid hb0
  have HZ0 := Lib.hid hz00
  clear hR hres hb0 hz00
  go_enter Tryz.func53, Tryz.ntmps53
  go_wp2_with fail
  generalize w.alloc (.cells #[.slice none 0 0, .int .i64 0] 102) = w0 at HR HS HB0 HZ0 ⊢
  go_at_call 81
  refine (wide_no _ _ hk).mono ?_
  rintro e w' ⟨rfl, rfl⟩
  obtain ⟨h0, h1, h2⟩ := HR.out
  go_wp2_with fail
  go_at_call 82
  refine (one_any 1 _ _).mono ?_
  rintro e w2 ⟨A, rfl, hA, hg, hb⟩
  have hzn : w.heap.size < w0.heap.size := Nat.lt_of_lt_of_le HZ0.out (Below.refl w0.heap.size w0).size
  obtain ⟨r0, r1, r2, r3⟩ := (HS.out.below (Below.refl w0.heap.size w0) HZ0.out).below hb hzn
  have hgR : ∀ g, A = some ⟨g, 0, none⟩ → w.heap.size ≠ g := fun g h => by have := hg g h; omega
  have P1 := Lib.hid ((hA.setOther (p := ⟨w.heap.size, 0, none⟩) (.slice A 1 1) hgR).setOther (p := ⟨w.heap.size, 1, none⟩) (.int .i64 a) hgR)
  have P2 := Lib.hid (HB0.out.trans ((((Below.refl w0.heap.size w0).mono (Nat.le_of_lt HZ0.out)).trans (hb.mono (Nat.le_of_lt hzn))).setCell (p := ⟨w.heap.size, 0, none⟩) (Nat.le_refl _) (.slice A 1 1) |>.setCell (p := ⟨w.heap.size, 1, none⟩) (Nat.le_refl _) (.int .i64 a)))
  have hcs := res_cells r0 r1 (.slice A 1 1) (.int .i64 a)
  clear hA hg hb hgR hzn
  go_wp2
  generalize (w2.setCell ⟨w.heap.size, 0, none⟩ (.slice A 1 1)).setCell ⟨w.heap.size, 1, none⟩ (.int .i64 a) = wf at P1 P2 hcs ⊢
  obtain ⟨k0, k1⟩ := hcs
  exact bodyPost_ret (v := .tuple #[.int .i64 0, .agg #[.slice A 1 1, .int .i64 a]]) (by simp [results, Tryz.results53, go_sem, k0, k1]) rfl ⟨A, _, rfl, P1.out, P2.out⟩

set_option maxRecDepth 100000 in
theorem rrnum_short (b a : Nat) (s : ByteArray) (k : Int) (w : World) (hR : Rdr w b s a) (ha : a ≤ s.size) (hs : s.size ≤ 1000000000) (hk : Width k) (hl : ((s.size - a : Nat) : Int) < k) :
    Calls Tryz.prog 53 #[.pointer (some ⟨b, 0, none⟩), .int .i64 k] w fun e w' => ∃ A at_, e = .returned (.tuple #[.int .i64 0, .agg #[.slice A 1 1, .int .i64 at_]]) ∧ RF w' A 1 1 [10] ∧ Below w.heap.size w w' := by
  have e1 : IntKind.i64.wrap ((s.size : Int) - (a : Int)) = (s.size : Int) - (a : Int) := IntWalk.i64_in _ (by omega)
  have hd : decide ((s.size : Int) - (a : Int) < k) = true := by simp only [decide_eq_true_eq]; omega
  have hres : Res (w.alloc (.cells #[.slice none 0 0, .int .i64 0] 102)) w.heap.size := ⟨by simp, by simp, by simp, by simp⟩
  have hb0 : Below w.heap.size w (w.alloc (.cells #[.slice none 0 0, .int .i64 0] 102)) := (Below.refl _ _).alloc (Nat.le_refl _) _
  have hz00 : w.heap.size < (w.alloc (.cells #[.slice none 0 0, .int .i64 0] 102)).heap.size := by simp
  have hbl := hR.lt
  have HR := Lib.hid (hR.below hb0)
  have HS := Lib.hid hres
  have HB0 := Lib.hid hb0
  have HZ0 := Lib.hid hz00
  clear hR hres hb0 hz00
  go_enter Tryz.func53, Tryz.ntmps53
  go_wp2_with fail
  generalize w.alloc (.cells #[.slice none 0 0, .int .i64 0] 102) = w0 at HR HS HB0 HZ0 ⊢
  go_at_call 81
  refine (wide_yes _ _ hk).mono ?_
  rintro e w' ⟨rfl, rfl⟩
  obtain ⟨h0, h1, h2⟩ := HR.out
  go_wp2_with fail
  go_quiet (fail)
  have hBn : Below w0.heap.size w0 (w0.drewN nq) := below_drewN (Below.refl _ _) nq
  obtain ⟨h0', h1', h2'⟩ := HR.out.below hBn
  have HBn := Lib.hid hBn
  clear h0 h1 h2 hBn
  generalize w0.drewN nq = w1 at h0' h1' h2' HBn ⊢
  go_wp2_with fail
  go_at_call 82
  refine (one_any 10 _ _).mono ?_
  rintro e w2 ⟨A, rfl, hA, hg, hb⟩
  have hzn : w.heap.size < w1.heap.size := Nat.lt_of_lt_of_le HZ0.out HBn.out.size
  obtain ⟨r0, r1, r2, r3⟩ := (HS.out.below HBn.out HZ0.out).below hb hzn
  have hgR : ∀ g, A = some ⟨g, 0, none⟩ → w.heap.size ≠ g := fun g h => by have := hg g h; omega
  have P1 := Lib.hid ((hA.setOther (p := ⟨w.heap.size, 0, none⟩) (.slice A 1 1) hgR).setOther (p := ⟨w.heap.size, 1, none⟩) (.int .i64 a) hgR)
  have P2 := Lib.hid (HB0.out.trans (((HBn.out.mono (Nat.le_of_lt HZ0.out)).trans (hb.mono (Nat.le_of_lt hzn))).setCell (p := ⟨w.heap.size, 0, none⟩) (Nat.le_refl _) (.slice A 1 1) |>.setCell (p := ⟨w.heap.size, 1, none⟩) (Nat.le_refl _) (.int .i64 a)))
  have hcs := res_cells r0 r1 (.slice A 1 1) (.int .i64 a)
  clear hA hg hb hgR hzn
  go_wp2
  generalize (w2.setCell ⟨w.heap.size, 0, none⟩ (.slice A 1 1)).setCell ⟨w.heap.size, 1, none⟩ (.int .i64 a) = wf at P1 P2 hcs ⊢
  obtain ⟨k0, k1⟩ := hcs
  exact bodyPost_ret (v := .tuple #[.int .i64 0, .agg #[.slice A 1 1, .int .i64 a]]) (by simp [results, Tryz.results53, go_sem, k0, k1]) rfl ⟨A, _, rfl, P1.out, P2.out⟩

set_option maxRecDepth 100000 in
theorem rrnum_long (b a : Nat) (s : ByteArray) (w : World) (hR : Rdr w b s a) (hs : s.size ≤ 1000000000) (hl : a + 8 ≤ s.size) (hb7 : 127 < bt s (a + 7)) :
    Calls Tryz.prog 53 #[.pointer (some ⟨b, 0, none⟩), .int .i64 8] w fun e w' => ∃ A at_, e = .returned (.tuple #[.int .i64 0, .agg #[.slice A 1 1, .int .i64 at_]]) ∧ RF w' A 1 1 [11] ∧ Below w.heap.size w w' := by
  have e1 : IntKind.i64.wrap ((s.size : Int) - (a : Int)) = (s.size : Int) - (a : Int) := IntWalk.i64_in _ (by omega)
  have hk : Width 8 := width8'
  have hd : decide ((s.size : Int) - (a : Int) < 8) = false := by simp only [decide_eq_false_iff_not]; omega
  have hbt := get_bt s
  have hd7 : decide ((127 : Int) < bt s (a + 7)) = true := by simp only [decide_eq_true_eq]; exact hb7
  have e2 : IntKind.i64.wrap ((a : Int) + 7) = (a : Int) + 7 := IntWalk.i64_in _ (by omega)
  have e3 : (0 : Int) ≤ (a : Int) + 7 := by omega
  have e4 : (a : Int) + 7 < (s.size : Int) := by omega
  have e5 : ((a : Int) + 7).toNat = a + 7 := by omega
  have hres : Res (w.alloc (.cells #[.slice none 0 0, .int .i64 0] 102)) w.heap.size := ⟨by simp, by simp, by simp, by simp⟩
  have hb0 : Below w.heap.size w (w.alloc (.cells #[.slice none 0 0, .int .i64 0] 102)) := (Below.refl _ _).alloc (Nat.le_refl _) _
  have hz00 : w.heap.size < (w.alloc (.cells #[.slice none 0 0, .int .i64 0] 102)).heap.size := by simp
  have hbl := hR.lt
  have HR := Lib.hid (hR.below hb0)
  have HS := Lib.hid hres
  have HB0 := Lib.hid hb0
  have HZ0 := Lib.hid hz00
  clear hR hres hb0 hz00
  go_enter Tryz.func53, Tryz.ntmps53
  go_wp2_with fail
  generalize w.alloc (.cells #[.slice none 0 0, .int .i64 0] 102) = w0 at HR HS HB0 HZ0 ⊢
  go_at_call 81
  refine (wide_yes _ _ hk).mono ?_
  rintro e w' ⟨rfl, rfl⟩
  obtain ⟨h0, h1, h2⟩ := HR.out
  go_wp2_with fail
  go_quiet (fail)
  have hBn : Below w0.heap.size w0 (w0.drewN nq) := below_drewN (Below.refl _ _) nq
  obtain ⟨h0', h1', h2'⟩ := HR.out.below hBn
  have HBn := Lib.hid hBn
  clear h0 h1 h2 hBn
  generalize w0.drewN nq = w1 at h0' h1' h2' HBn ⊢
  go_wp2_with fail
  go_quiet (fail)
  have hBm : Below w0.heap.size w0 (w1.drewN nq) := below_drewN HBn.out nq
  obtain ⟨h0, h1, h2⟩ := HR.out.below hBm
  have HBm := Lib.hid hBm
  clear h0' h1' h2' hBm
  generalize w1.drewN nq = w3 at h0 h1 h2 HBm ⊢
  go_wp2_with fail
  go_at_call 82
  refine (one_any 11 _ _).mono ?_
  rintro e w2 ⟨A, rfl, hA, hg, hb⟩
  have hzn : w.heap.size < w3.heap.size := Nat.lt_of_lt_of_le HZ0.out HBm.out.size
  obtain ⟨r0, r1, r2, r3⟩ := (HS.out.below HBm.out HZ0.out).below hb hzn
  have hgR : ∀ g, A = some ⟨g, 0, none⟩ → w.heap.size ≠ g := fun g h => by have := hg g h; omega
  have P1 := Lib.hid ((hA.setOther (p := ⟨w.heap.size, 0, none⟩) (.slice A 1 1) hgR).setOther (p := ⟨w.heap.size, 1, none⟩) (.int .i64 a) hgR)
  have P2 := Lib.hid (HB0.out.trans (((HBm.out.mono (Nat.le_of_lt HZ0.out)).trans (hb.mono (Nat.le_of_lt hzn))).setCell (p := ⟨w.heap.size, 0, none⟩) (Nat.le_refl _) (.slice A 1 1) |>.setCell (p := ⟨w.heap.size, 1, none⟩) (Nat.le_refl _) (.int .i64 a)))
  have hcs := res_cells r0 r1 (.slice A 1 1) (.int .i64 a)
  clear hA hg hb hgR hzn
  go_wp2
  generalize (w2.setCell ⟨w.heap.size, 0, none⟩ (.slice A 1 1)).setCell ⟨w.heap.size, 1, none⟩ (.int .i64 a) = wf at P1 P2 hcs ⊢
  obtain ⟨k0, k1⟩ := hcs
  exact bodyPost_ret (v := .tuple #[.int .i64 0, .agg #[.slice A 1 1, .int .i64 a]]) (by simp [results, Tryz.results53, go_sem, k0, k1]) rfl ⟨A, _, rfl, P1.out, P2.out⟩

set_option maxRecDepth 100000 in
set_option maxHeartbeats 1000000 in
theorem rrnum_ok8 (b a : Nat) (s : ByteArray) (w : World) (hR : Rdr w b s a) (hs : s.size ≤ 1000000000) (hl : a + 8 ≤ s.size) (hb7 : bt s (a + 7) ≤ 127) (hV : hvf s a 8 0 ≤ 9223372036854775807) :
    Calls Tryz.prog 53 #[.pointer (some ⟨b, 0, none⟩), .int .i64 8] w fun e w' => e = .returned (.tuple #[.int .i64 (hvf s a 8 0), .agg #[.slice none 0 0, .int .i64 0]]) ∧ Rdr w' b s (a + 8) ∧ Fr b none w w' := by
  have e1 : IntKind.i64.wrap ((s.size : Int) - (a : Int)) = (s.size : Int) - (a : Int) := IntWalk.i64_in _ (by omega)
  have hk : Width 8 := width8'
  have hd : decide ((s.size : Int) - (a : Int) < 8) = false := by simp only [decide_eq_false_iff_not]; omega
  have hbt := get_bt s
  have hd7 : decide ((127 : Int) < bt s (a + 7)) = false := by simp only [decide_eq_false_iff_not]; omega
  have e2 : IntKind.i64.wrap ((a : Int) + 7) = (a : Int) + 7 := IntWalk.i64_in _ (by omega)
  have e3 : (0 : Int) ≤ (a : Int) + 7 := by omega
  have e4 : (a : Int) + 7 < (s.size : Int) := by omega
  have e5 : ((a : Int) + 7).toNat = a + 7 := by omega
  have hres : Res (w.alloc (.cells #[.slice none 0 0, .int .i64 0] 102)) w.heap.size := ⟨by simp, by simp, by simp, by simp⟩
  have hb0 : Below w.heap.size w (w.alloc (.cells #[.slice none 0 0, .int .i64 0] 102)) := (Below.refl _ _).alloc (Nat.le_refl _) _
  have hz00 : w.heap.size < (w.alloc (.cells #[.slice none 0 0, .int .i64 0] 102)).heap.size := by simp
  have hbl := hR.lt
  have HR := Lib.hid (hR.below hb0)
  have HS := Lib.hid hres
  have HB0 := Lib.hid hb0
  have HZ0 := Lib.hid hz00
  clear hR hres hb0 hz00
  go_enter Tryz.func53, Tryz.ntmps53
  go_wp2_with fail
  generalize w.alloc (.cells #[.slice none 0 0, .int .i64 0] 102) = w0 at HR HS HB0 HZ0 ⊢
  go_at_call 81
  refine (wide_yes _ _ hk).mono ?_
  rintro e w' ⟨rfl, rfl⟩
  obtain ⟨h0, h1, h2⟩ := HR.out
  go_wp2_with fail
  go_quiet (fail)
  have hBn : Below w0.heap.size w0 (w0.drewN nq) := below_drewN (Below.refl _ _) nq
  obtain ⟨h0', h1', h2'⟩ := HR.out.below hBn
  have HBn := Lib.hid hBn
  clear h0 h1 h2 hBn
  generalize w0.drewN nq = w1 at h0' h1' h2' HBn ⊢
  go_wp2_with fail
  go_quiet (fail)
  have hBm : Below w0.heap.size w0 (w1.drewN nq) := below_drewN HBn.out nq
  have HRm := Lib.hid (HR.out.below hBm)
  have HBm := Lib.hid hBm
  clear h0' h1' h2' hBm
  generalize w1.drewN nq = w3 at HRm HBm ⊢
  go_wp2
  go_loopw [6, 7] (fun x i wr => ∃ j : Nat, j ≤ 8 ∧ i = .int .i64 ((j : Int) - 1) ∧ x = .int .i64 (hvf s a 8 j) ∧ Rdr wr b s a ∧ Below w0.heap.size w0 wr) (fun _ i _ => (intOf i + 1).toNat)
  case atStart => exact ⟨8, Nat.le_refl _, rfl, by rw [hvf_end], HRm.out, HBm.out⟩
  case round =>
    obtain ⟨j, hj, rfl, rfl, hRj, hBj⟩ := hrel
    have HRj := Lib.hid hRj
    have HBj := Lib.hid hBj
    clear hBj
    cases j with
    | zero =>
      obtain ⟨h0, h1, h2⟩ := hRj
      obtain ⟨r0, r1, r2, r3⟩ := HS.out.below HBj.out HZ0.out
      have ez : ((0 : Nat) : Int) - 1 = -1 := rfl
      rw [ez]
      have ea : IntKind.i64.wrap ((a : Int) + 8) = ((a + 8 : Nat) : Int) := by rw [IntWalk.i64_in _ (by omega)]; omega
      have hne : (⟨w.heap.size, 0, none⟩ : Addr) ≠ ⟨b, 1, none⟩ := fun e => by injection e with e1; omega
      have hne1 : (⟨w.heap.size, 1, none⟩ : Addr) ≠ ⟨b, 1, none⟩ := fun e => by injection e with e1; omega
      have hbR : b ≠ w.heap.size := by omega
      generalize hVV : hvf s a 8 0 = V at hV ⊢
      have HVV := Lib.hid hVV
      have hst := Rdr.stored HBj.out ⟨h0, h1, h2⟩ (a + 8)
      have ec : ((a + 8 : Nat) : Int) = (a : Int) + 8 := by omega
      rw [ec] at hst
      have r0' : (wr.setCell ⟨b, 1, none⟩ (.int .i64 ((a : Int) + 8))).cell? ⟨w.heap.size, 0, none⟩ = some (.slice none 0 0) := by rw [World.cell?_setCell_other _ _ _ _ (Ne.symm hne)]; exact r0
      have r1' : (wr.setCell ⟨b, 1, none⟩ (.int .i64 ((a : Int) + 8))).cell? ⟨w.heap.size, 1, none⟩ = some (.int .i64 0) := by rw [World.cell?_setCell_other _ _ _ _ (Ne.symm hne1)]; exact r1
      have HST := Lib.hid hst
      have R0 := Lib.hid r0'
      have R1 := Lib.hid r1'
      clear hVV hst r0' r1' ec
      go_wp2
      rw [HVV.out]
      have hst := HST.out
      have r0' := R0.out
      have r1' := R1.out
      generalize wr.setCell ⟨b, 1, none⟩ (.int .i64 ((a : Int) + 8)) = w4 at hst r0' r1' ⊢
      obtain ⟨c0, c1⟩ := res_cells r0' r1' (.slice none 0 0) (.int .i64 0)
      exact bodyPost_ret (v := .tuple #[.int .i64 V, .agg #[.slice none 0 0, .int .i64 0]]) (by simp [results, Tryz.results53, go_sem, c0, c1]) rfl ⟨rfl, (hst.1.setOther (p := ⟨w.heap.size, 0, none⟩) _ (Ne.symm hbR)).setOther (p := ⟨w.heap.size, 1, none⟩) _ (Ne.symm hbR), (Fr.after HB0.out hst.2).then_ (((Below.refl w.heap.size w4).setCell (p := ⟨w.heap.size, 0, none⟩) (Nat.le_refl _) _).setCell (p := ⟨w.heap.size, 1, none⟩) (Nat.le_refl _) _)⟩
    | succ m =>
      have ez : (((m + 1 : Nat)) : Int) - 1 = (m : Int) := by omega
      rw [ez]
      have hst := hvf_step s a 8 m (by omega)
      have hmo := hvf_mono s a 8 m (by omega)
      have hn1 := hvf_nonneg s a 8 (8 - (m + 1)) (m + 1) (by omega)
      have hb0 := bt_nonneg s (a + m)
      have HST := Lib.hid hst
      obtain ⟨h0, h1, h2⟩ := hRj
      have x1 : IntKind.i64.wrap (hvf s a 8 (m + 1) * 256) = hvf s a 8 (m + 1) * 256 := IntWalk.i64_in _ (by omega)
      have x2 : IntKind.i64.wrap (hvf s a 8 (m + 1) * 256 + bt s (a + m)) = hvf s a 8 (m + 1) * 256 + bt s (a + m) := IntWalk.i64_in _ (by omega)
      have x3 : IntKind.i64.wrap ((a : Int) + (m : Int)) = ((a + m : Nat) : Int) := by rw [IntWalk.i64_in _ (by omega)]; omega
      have x4 : ((a + m : Nat) : Int) < (s.size : Int) := by omega
      have x5 : (0 : Int) ≤ ((a + m : Nat) : Int) := by omega
      have x6 : IntKind.i64.wrap (bt s (a + m)) = bt s (a + m) := IntWalk.i64_in _ (by have := bt_le s (a + m); omega)
      have hm0 : (0 : Int) ≤ (m : Int) := by omega
      generalize hvf s a 8 (m + 1) = Y at hst hn1 HST x1 x2 ⊢
      clear hst hmo hn1
      go_wp2
      go_quiet (fail)
      go_wp2
      go_roundw
      case rel => exact ⟨m, by omega, rfl, by rw [HST.out], HRj.out.below (below_drewN (Below.refl _ _) nq), below_drewN HBj.out nq⟩
      case measure => simp [intOf]
set_option maxRecDepth 100000 in
set_option maxHeartbeats 1000000 in
theorem rrnum_okv (b a : Nat) (s : ByteArray) (k : Nat) (w : World) (hR : Rdr w b s a) (hs : s.size ≤ 1000000000) (hl : a + k ≤ s.size) (hkw : Width (k : Int)) (hk4 : k ≤ 4) (hV : hvf s a k 0 ≤ 9223372036854775807) :
    Calls Tryz.prog 53 #[.pointer (some ⟨b, 0, none⟩), .int .i64 (k : Int)] w fun e w' => e = .returned (.tuple #[.int .i64 (hvf s a k 0), .agg #[.slice none 0 0, .int .i64 0]]) ∧ Rdr w' b s (a + k) ∧ Fr b none w w' := by
  have e1 : IntKind.i64.wrap ((s.size : Int) - (a : Int)) = (s.size : Int) - (a : Int) := IntWalk.i64_in _ (by omega)
  have hk : Width (k : Int) := hkw
  have hd : decide ((s.size : Int) - (a : Int) < (k : Int)) = false := by simp only [decide_eq_false_iff_not]; omega
  have hbt := get_bt s
  have hne8 : ((k : Int) == 8) = false := by simp only [beq_eq_false_iff_ne]; omega
  have hkp : 0 < k := by unfold Width at hkw; omega
  have hkm : IntKind.i64.wrap ((k : Int) - 1) = (k : Int) - 1 := IntWalk.i64_in _ (by omega)
  have hres : Res (w.alloc (.cells #[.slice none 0 0, .int .i64 0] 102)) w.heap.size := ⟨by simp, by simp, by simp, by simp⟩
  have hb0 : Below w.heap.size w (w.alloc (.cells #[.slice none 0 0, .int .i64 0] 102)) := (Below.refl _ _).alloc (Nat.le_refl _) _
  have hz00 : w.heap.size < (w.alloc (.cells #[.slice none 0 0, .int .i64 0] 102)).heap.size := by simp
  have hbl := hR.lt
  have HR := Lib.hid (hR.below hb0)
  have HS := Lib.hid hres
  have HB0 := Lib.hid hb0
  have HZ0 := Lib.hid hz00
  clear hR hres hb0 hz00
  go_enter Tryz.func53, Tryz.ntmps53
  go_wp2_with fail
  generalize w.alloc (.cells #[.slice none 0 0, .int .i64 0] 102) = w0 at HR HS HB0 HZ0 ⊢
  go_at_call 81
  refine (wide_yes _ _ hk).mono ?_
  rintro e w' ⟨rfl, rfl⟩
  obtain ⟨h0, h1, h2⟩ := HR.out
  go_wp2_with fail
  go_quiet (fail)
  have hBn : Below w0.heap.size w0 (w0.drewN nq) := below_drewN (Below.refl _ _) nq
  obtain ⟨h0', h1', h2'⟩ := HR.out.below hBn
  have HBn := Lib.hid hBn
  clear h0 h1 h2 hBn
  generalize w0.drewN nq = w1 at h0' h1' h2' HBn ⊢
  go_wp2_with fail
  go_quiet (fail)
  have hBm : Below w0.heap.size w0 (w1.drewN nq) := below_drewN HBn.out nq
  have HRm := Lib.hid (HR.out.below hBm)
  have HBm := Lib.hid hBm
  clear h0' h1' h2' hBm
  generalize w1.drewN nq = w3 at HRm HBm ⊢
  go_wp2
  go_loopw [6, 7] (fun x i wr => ∃ j : Nat, j ≤ k ∧ i = .int .i64 ((j : Int) - 1) ∧ x = .int .i64 (hvf s a k j) ∧ Rdr wr b s a ∧ Below w0.heap.size w0 wr) (fun _ i _ => (intOf i + 1).toNat)
  case atStart => exact ⟨k, Nat.le_refl _, rfl, by rw [hvf_end], HRm.out, HBm.out⟩
  case round =>
    obtain ⟨j, hj, rfl, rfl, hRj, hBj⟩ := hrel
    have HRj := Lib.hid hRj
    have HBj := Lib.hid hBj
    clear hBj
    cases j with
    | zero =>
      obtain ⟨h0, h1, h2⟩ := hRj
      obtain ⟨r0, r1, r2, r3⟩ := HS.out.below HBj.out HZ0.out
      have ez : ((0 : Nat) : Int) - 1 = -1 := rfl
      rw [ez]
      have ea : IntKind.i64.wrap ((a : Int) + (k : Int)) = ((a + k : Nat) : Int) := by rw [IntWalk.i64_in _ (by omega)]; omega
      have hne : (⟨w.heap.size, 0, none⟩ : Addr) ≠ ⟨b, 1, none⟩ := fun e => by injection e with e1; omega
      have hne1 : (⟨w.heap.size, 1, none⟩ : Addr) ≠ ⟨b, 1, none⟩ := fun e => by injection e with e1; omega
      have hbR : b ≠ w.heap.size := by omega
      generalize hVV : hvf s a k 0 = V at hV ⊢
      have HVV := Lib.hid hVV
      have hst := Rdr.stored HBj.out ⟨h0, h1, h2⟩ (a + k)
      have ec : ((a + k : Nat) : Int) = (a : Int) + (k : Int) := by omega
      rw [ec] at hst
      have r0' : (wr.setCell ⟨b, 1, none⟩ (.int .i64 ((a : Int) + (k : Int)))).cell? ⟨w.heap.size, 0, none⟩ = some (.slice none 0 0) := by rw [World.cell?_setCell_other _ _ _ _ (Ne.symm hne)]; exact r0
      have r1' : (wr.setCell ⟨b, 1, none⟩ (.int .i64 ((a : Int) + (k : Int)))).cell? ⟨w.heap.size, 1, none⟩ = some (.int .i64 0) := by rw [World.cell?_setCell_other _ _ _ _ (Ne.symm hne1)]; exact r1
      have HST := Lib.hid hst
      have R0 := Lib.hid r0'
      have R1 := Lib.hid r1'
      clear hVV hst r0' r1' ec
      go_wp2
      rw [HVV.out]
      have hst := HST.out
      have r0' := R0.out
      have r1' := R1.out
      generalize wr.setCell ⟨b, 1, none⟩ (.int .i64 ((a : Int) + (k : Int))) = w4 at hst r0' r1' ⊢
      obtain ⟨c0, c1⟩ := res_cells r0' r1' (.slice none 0 0) (.int .i64 0)
      exact bodyPost_ret (v := .tuple #[.int .i64 V, .agg #[.slice none 0 0, .int .i64 0]]) (by simp [results, Tryz.results53, go_sem, c0, c1]) rfl ⟨rfl, (hst.1.setOther (p := ⟨w.heap.size, 0, none⟩) _ (Ne.symm hbR)).setOther (p := ⟨w.heap.size, 1, none⟩) _ (Ne.symm hbR), (Fr.after HB0.out hst.2).then_ (((Below.refl w.heap.size w4).setCell (p := ⟨w.heap.size, 0, none⟩) (Nat.le_refl _) _).setCell (p := ⟨w.heap.size, 1, none⟩) (Nat.le_refl _) _)⟩
    | succ m =>
      have ez : (((m + 1 : Nat)) : Int) - 1 = (m : Int) := by omega
      rw [ez]
      have hst := hvf_step s a k m (by omega)
      have hmo := hvf_mono s a k m (by omega)
      have hn1 := hvf_nonneg s a k (k - (m + 1)) (m + 1) (by omega)
      have hb0 := bt_nonneg s (a + m)
      have HST := Lib.hid hst
      obtain ⟨h0, h1, h2⟩ := hRj
      have x1 : IntKind.i64.wrap (hvf s a k (m + 1) * 256) = hvf s a k (m + 1) * 256 := IntWalk.i64_in _ (by omega)
      have x2 : IntKind.i64.wrap (hvf s a k (m + 1) * 256 + bt s (a + m)) = hvf s a k (m + 1) * 256 + bt s (a + m) := IntWalk.i64_in _ (by omega)
      have x3 : IntKind.i64.wrap ((a : Int) + (m : Int)) = ((a + m : Nat) : Int) := by rw [IntWalk.i64_in _ (by omega)]; omega
      have x4 : ((a + m : Nat) : Int) < (s.size : Int) := by omega
      have x5 : (0 : Int) ≤ ((a + m : Nat) : Int) := by omega
      have x6 : IntKind.i64.wrap (bt s (a + m)) = bt s (a + m) := IntWalk.i64_in _ (by have := bt_le s (a + m); omega)
      have hm0 : (0 : Int) ≤ (m : Int) := by omega
      generalize hvf s a k (m + 1) = Y at hst hn1 HST x1 x2 ⊢
      clear hst hmo hn1
      go_wp2
      go_quiet (fail)
      go_wp2
      go_roundw
      case rel => exact ⟨m, by omega, rfl, by rw [HST.out], HRj.out.below (below_drewN (Below.refl _ _) nq), below_drewN HBj.out nq⟩
      case measure => simp [intOf]
end Go.Proofs.YtmmpknfkncgjpaaGreatDoor
