/-
  The document's reader (weirkeepref01), by contracts: its Text, its End.
-/
import Derived.Test.YtmmpknfkncgjpaaGreatDoorM14
namespace Go.Proofs.YtmmpknfkncgjpaaGreatDoor
open Go.RowKit Go.Extern.Stop Go.Stop Go.Extern Go.PlainAid Go.Lib

theorem Fr.of_below {b : Nat} {row : Option Nat} {w w' : World} (h : Below w.heap.size w w') : Fr b row w w' := ⟨h.os, h.tape, h.output, h.size, fun k hk _ _ => h.block k hk⟩
theorem Fr.trans {b : Nat} {w w1 w2 : World} (h : Fr b none w w1) (h' : Fr b none w1 w2) : Fr b none w w2 :=
  ⟨h'.os.trans h.os, h'.tape.trans h.tape, h'.output.trans h.output, Nat.le_trans h.size h'.size, fun k hk h1 h2 => (h'.block k (Nat.lt_of_lt_of_le hk h.size) h1 h2).trans (h.block k hk h1 h2)⟩
/-- Where the reader stands is set. -/
theorem Rdr.put {w : World} {b a : Nat} {s : ByteArray} (h : Rdr w b s a) (c : Nat) : Rdr (w.setCell ⟨b, 1, none⟩ (.int .i64 c)) b s c ∧ Fr b none w (w.setCell ⟨b, 1, none⟩ (.int .i64 c)) := Rdr.stored (Below.refl _ _) h c

set_option maxRecDepth 100000 in
theorem rrend_ok (b : Nat) (s : ByteArray) (w : World) (hR : Rdr w b s s.size) :
    Calls Tryz.prog 56 #[.pointer (some ⟨b, 0, none⟩)] w fun e w' => e = .returned (.agg #[.slice none 0 0, .int .i64 0]) ∧ Below w.heap.size w w' := by
  have hd : decide ((s.size : Int) < (s.size : Int)) = false := by simp
  have hres : Res (w.alloc (.cells #[.slice none 0 0, .int .i64 0] 102)) w.heap.size := ⟨by simp, by simp, by simp, by simp⟩
  have hb0 : Below w.heap.size w (w.alloc (.cells #[.slice none 0 0, .int .i64 0] 102)) := (Below.refl _ _).alloc (Nat.le_refl _) _
  have hz00 : w.heap.size < (w.alloc (.cells #[.slice none 0 0, .int .i64 0] 102)).heap.size := by simp
  have hbl := hR.lt
  have HR := Lib.hid (hR.below hb0)
  have HS := Lib.hid hres
  have HB0 := Lib.hid hb0
  have HZ0 := Lib.hid hz00
  obtain ⟨h0, h1, h2⟩ := hR.below hb0
  clear hR hres hb0 hz00
  go_enter Tryz.func56, Tryz.ntmps56
  go_wp2_with fail
  generalize w.alloc (.cells #[.slice none 0 0, .int .i64 0] 102) = w0 at HR HS HB0 HZ0 h0 h1 h2 ⊢
  go_quiet (fail)
  obtain ⟨r0, r1, r2, r3⟩ := HS.out.below (below_drewN (Below.refl _ _) nq) HZ0.out
  have HBn := Lib.hid (show Below w.heap.size w (w0.drewN nq) from below_drewN HB0.out nq)
  generalize w0.drewN nq = w1 at r0 r1 r2 r3 HBn ⊢
  go_wp2
  obtain ⟨c0, c1⟩ := res_cells r0 r1 (.slice none 0 0) (.int .i64 0)
  exact bodyPost_ret (v := .agg #[.slice none 0 0, .int .i64 0]) (by simp [results, Tryz.results56, go_sem, c0, c1]) rfl ⟨rfl, (HBn.out.setCell (p := ⟨w.heap.size, 0, none⟩) (Nat.le_refl _) _).setCell (p := ⟨w.heap.size, 1, none⟩) (Nat.le_refl _) _⟩

set_option maxRecDepth 100000 in
theorem rrend_bad (b a : Nat) (s : ByteArray) (w : World) (hR : Rdr w b s a) (ha : a < s.size) :
    Calls Tryz.prog 56 #[.pointer (some ⟨b, 0, none⟩)] w fun e w' => ∃ A at_, e = .returned (.agg #[.slice A 1 1, .int .i64 at_]) ∧ RF w' A 1 1 [11] ∧ Below w.heap.size w w' := by
  have hd : decide ((a : Int) < (s.size : Int)) = true := by simp only [decide_eq_true_eq]; omega
  have hres : Res (w.alloc (.cells #[.slice none 0 0, .int .i64 0] 102)) w.heap.size := ⟨by simp, by simp, by simp, by simp⟩
  have hb0 : Below w.heap.size w (w.alloc (.cells #[.slice none 0 0, .int .i64 0] 102)) := (Below.refl _ _).alloc (Nat.le_refl _) _
  have hz00 : w.heap.size < (w.alloc (.cells #[.slice none 0 0, .int .i64 0] 102)).heap.size := by simp
  have hbl := hR.lt
  have HR := Lib.hid (hR.below hb0)
  have HS := Lib.hid hres
  have HB0 := Lib.hid hb0
  have HZ0 := Lib.hid hz00
  obtain ⟨h0, h1, h2⟩ := hR.below hb0
  clear hR hres hb0 hz00
  go_enter Tryz.func56, Tryz.ntmps56
  go_wp2_with fail
  generalize w.alloc (.cells #[.slice none 0 0, .int .i64 0] 102) = w0 at HR HS HB0 HZ0 h0 h1 h2 ⊢
  go_quiet (fail)
  have hBn : Below w0.heap.size w0 (w0.drewN nq) := below_drewN (Below.refl _ _) nq
  obtain ⟨h0', h1', h2'⟩ := HR.out.below hBn
  have HBn := Lib.hid hBn
  clear h0 h1 h2 hBn
  generalize w0.drewN nq = w1 at h0' h1' h2' HBn ⊢
  go_wp2_with fail
  go_at_call 82
  refine (one_any 11 _ _).mono ?_
  rintro e w2 ⟨A, rfl, hA, hg, hb⟩
  have hzn : w.heap.size < w1.heap.size := Nat.lt_of_lt_of_le HZ0.out HBn.out.size
  obtain ⟨r0, r1, r2, r3⟩ := (HS.out.below HBn.out HZ0.out).below hb hzn
  have hgR : ∀ g, A = some ⟨g, 0, none⟩ → w.heap.size ≠ g := fun g h => by have := hg g h; omega
  have P1 := Lib.hid ((hA.setOther (p := ⟨w.heap.size, 0, none⟩) (.slice A 1 1) hgR).setOther (p := ⟨w.heap.size, 1, none⟩) (.int .i64 a) hgR)
  have P2 := Lib.hid (HB0.out.trans (((HBn.out.mono (Nat.le_of_lt HZ0.out)).trans (hb.mono (Nat.le_of_lt hzn))).setCell (p := ⟨w.heap.size, 0, none⟩) (Nat.le_refl _) (.slice A 1 1) |>.setCell (p := ⟨w.heap.size, 1, none⟩) (Nat.le_refl _) (.int .i64 a)))
  have hcs := res_cells r0 r1 (.slice A 1 1) (.int .i64 a)
  clear hA hg hb hgR hzn
  go_wp2
  generalize (w2.setCell ⟨w.heap.size, 0, none⟩ (.slice A 1 1)).setCell ⟨w.heap.size, 1, none⟩ (.int .i64 a) = wf at P1 P2 hcs ⊢
  obtain ⟨k0, k1⟩ := hcs
  exact bodyPost_ret (v := .agg #[.slice A 1 1, .int .i64 a]) (by simp [results, Tryz.results56, go_sem, k0, k1]) rfl ⟨A, _, rfl, P1.out, P2.out⟩

set_option maxRecDepth 100000 in
set_option maxHeartbeats 1000000 in
theorem rrtext_long (b a L : Nat) (s : ByteArray) (w : World) (hR : Rdr w b s a) (hs : s.size ≤ 1000000000) (hl : a + 2 ≤ s.size) (hL : lev (s.extract a s.size) 2 = L) (hL1 : 1024 < L) (hL2 : L ≤ 65535) :
    Calls Tryz.prog 54 #[.pointer (some ⟨b, 0, none⟩)] w fun e w' => ∃ A at_, e = .returned (.tuple #[.string ⟨#[]⟩, .agg #[.slice A 1 1, .int .i64 at_]]) ∧ RF w' A 1 1 [11] ∧ Rdr w' b s a ∧ Fr b none w w' := by
  have hLv : hvf s a 2 0 = (L : Int) := by rw [hvf_lev s a 2 (by omega)]; exact hL
  have HN := Lib.hid (show ∀ W, Rdr W b s a → Calls Tryz.prog 53 #[.pointer (some ⟨b, 0, none⟩), .int .i64 2] W fun e w' => e = .returned (.tuple #[.int .i64 (L : Int), .agg #[.slice none 0 0, .int .i64 0]]) ∧ Rdr w' b s (a + 2) ∧ Fr b none W w' from fun W hW => by rw [← hLv]; exact rrnum_okv b a s 2 W hW hs (by omega) (.inr (.inl rfl)) (by decide) (by rw [hLv]; omega))
  clear hLv hL
  have hd : decide ((1024 : Int) < (L : Int)) = true := by simp only [decide_eq_true_eq]; omega
  have hres : Res (w.alloc (.cells #[.slice none 0 0, .int .i64 0] 102)) w.heap.size := ⟨by simp, by simp, by simp, by simp⟩
  have hb0 : Below w.heap.size w (w.alloc (.cells #[.slice none 0 0, .int .i64 0] 102)) := (Below.refl _ _).alloc (Nat.le_refl _) _
  have hz00 : w.heap.size < (w.alloc (.cells #[.slice none 0 0, .int .i64 0] 102)).heap.size := by simp
  have hbl := hR.lt
  have HR := Lib.hid (hR.below hb0)
  have HS := Lib.hid hres
  have HB0 := Lib.hid hb0
  have HZ0 := Lib.hid hz00
  obtain ⟨h0, h1, h2⟩ := hR.below hb0
  clear hR hres hb0 hz00
  go_enter Tryz.func54, Tryz.ntmps54
  go_wp2_with fail
  generalize w.alloc (.cells #[.slice none 0 0, .int .i64 0] 102) = w0 at HR HS HB0 HZ0 h0 h1 h2 ⊢
  go_at_call 53
  refine (HN.out w0 HR.out).mono ?_
  rintro e w1 ⟨rfl, hR1, hF1⟩
  have hRb : w.heap.size ≠ b := by omega
  have F1 := Lib.hid hF1
  have S1 := Lib.hid (HS.out.fr hF1 hRb (by simp) HZ0.out)
  have Z1 := Lib.hid (Nat.lt_of_lt_of_le HZ0.out hF1.size)
  have R1 := Lib.hid hR1
  clear h0 h1 h2 hR1 hF1
  go_wp2_with fail
  have hb2 : Below w1.heap.size w1 (w1.alloc (.cells #[.slice none 0 0, .int .i64 0] 102)) := (Below.refl _ _).alloc (Nat.le_refl _) _
  have R2 := Lib.hid (R1.out.below hb2)
  have S2 := Lib.hid (S1.out.below hb2 Z1.out)
  have Z2 := Lib.hid (Nat.lt_of_lt_of_le Z1.out hb2.size)
  have F2 := Lib.hid (F1.out.then_ (hb2.mono F1.out.size))
  clear hb2
  generalize w1.alloc (.cells #[.slice none 0 0, .int .i64 0] 102) = w2 at R2 S2 Z2 F2 ⊢
  go_at_call 55
  refine (rcode_any none 0 0 [] 0 _ RF.none_ (by decide)).mono ?_
  rintro e w3 ⟨rfl, hb3⟩
  have R3 := Lib.hid ((R2.out.below hb3).put a)
  have hR3 := R2.out.below hb3
  have S3 := Lib.hid ((S2.out.below hb3 Z2.out).fr R3.out.2 hRb (by simp) (Nat.lt_of_lt_of_le Z2.out hb3.size))
  have Z3 := Lib.hid (show w.heap.size < (w3.setCell ⟨b, 1, none⟩ (.int .i64 a)).heap.size from Nat.lt_of_lt_of_le (Nat.lt_of_lt_of_le Z2.out hb3.size) R3.out.2.size)
  have F3 := Lib.hid ((F2.out.then_ (hb3.mono F2.out.size)).trans R3.out.2)
  obtain ⟨h0, h1, h2⟩ := hR3
  clear hb3
  go_wp2_with fail
  have RX := Lib.hid R3.out.1
  have SX := S3
  have ZX := Z3
  have FX := F3
  clear S3 Z3 F3 R3 h0 h1 h2
  generalize w3.setCell ⟨b, 1, none⟩ (.int .i64 a) = w4 at RX SX ZX FX ⊢
  go_at_call 82
  refine (one_any 11 _ _).mono ?_
  rintro e w5 ⟨A, rfl, hA, hg, hb⟩
  have hRf := (RX.out.below hb)
  have hFf := (FX.out.then_ (hb.mono FX.out.size))
  obtain ⟨r0, r1, r2, r3⟩ := SX.out.below hb ZX.out
  have hgR : ∀ g, A = some ⟨g, 0, none⟩ → w.heap.size ≠ g := fun g h => by have := hg g h; have := ZX.out; omega
  have P1 := Lib.hid ((hA.setOther (p := ⟨w.heap.size, 0, none⟩) (.slice A 1 1) hgR).setOther (p := ⟨w.heap.size, 1, none⟩) (.int .i64 a) hgR)
  have P2 := Lib.hid ((Fr.after HB0.out hFf).then_ (((Below.refl w.heap.size w5).setCell (p := ⟨w.heap.size, 0, none⟩) (Nat.le_refl _) (.slice A 1 1)).setCell (p := ⟨w.heap.size, 1, none⟩) (Nat.le_refl _) (.int .i64 a)))
  have P3 := Lib.hid ((hRf.setOther (p := ⟨w.heap.size, 0, none⟩) (.slice A 1 1) hRb).setOther (p := ⟨w.heap.size, 1, none⟩) (.int .i64 a) hRb)
  have hcs := res_cells r0 r1 (.slice A 1 1) (.int .i64 a)
  clear hA hg hb hgR hRf hFf
  go_wp2
  generalize (w5.setCell ⟨w.heap.size, 0, none⟩ (.slice A 1 1)).setCell ⟨w.heap.size, 1, none⟩ (.int .i64 a) = wf at P1 P2 P3 hcs ⊢
  obtain ⟨k0, k1⟩ := hcs
  exact bodyPost_ret (v := .tuple #[.string ⟨#[]⟩, .agg #[.slice A 1 1, .int .i64 a]]) (by simp [results, Tryz.results54, go_sem, k0, k1]) rfl ⟨A, _, rfl, P1.out, P3.out, P2.out⟩

set_option maxRecDepth 100000 in
set_option maxHeartbeats 1000000 in
theorem rrtext_short (b a L : Nat) (s : ByteArray) (w : World) (hR : Rdr w b s a) (hs : s.size ≤ 1000000000) (hl : a + 2 ≤ s.size) (hL : lev (s.extract a s.size) 2 = L) (hL1 : L ≤ 1024) (hL2 : s.size < a + 2 + L) :
    Calls Tryz.prog 54 #[.pointer (some ⟨b, 0, none⟩)] w fun e w' => ∃ A at_, e = .returned (.tuple #[.string ⟨#[]⟩, .agg #[.slice A 1 1, .int .i64 at_]]) ∧ RF w' A 1 1 [10] ∧ Rdr w' b s a ∧ Fr b none w w' := by
  have hLv : hvf s a 2 0 = (L : Int) := by rw [hvf_lev s a 2 (by omega)]; exact hL
  have HN := Lib.hid (show ∀ W, Rdr W b s a → Calls Tryz.prog 53 #[.pointer (some ⟨b, 0, none⟩), .int .i64 2] W fun e w' => e = .returned (.tuple #[.int .i64 (L : Int), .agg #[.slice none 0 0, .int .i64 0]]) ∧ Rdr w' b s (a + 2) ∧ Fr b none W w' from fun W hW => by rw [← hLv]; exact rrnum_okv b a s 2 W hW hs (by omega) (.inr (.inl rfl)) (by decide) (by rw [hLv]; omega))
  clear hLv hL
  have hd : decide ((1024 : Int) < (L : Int)) = false := by simp only [decide_eq_false_iff_not]; omega
  have e1 : IntKind.i64.wrap ((s.size : Int) - (a : Int)) = (s.size : Int) - (a : Int) := IntWalk.i64_in _ (by omega)
  have e2 : IntKind.i64.wrap ((s.size : Int) - (a : Int) - 2) = (s.size : Int) - (a : Int) - 2 := IntWalk.i64_in _ (by omega)
  have hd2 : decide ((s.size : Int) - (a : Int) - 2 < (L : Int)) = true := by simp only [decide_eq_true_eq]; omega
  have hres : Res (w.alloc (.cells #[.slice none 0 0, .int .i64 0] 102)) w.heap.size := ⟨by simp, by simp, by simp, by simp⟩
  have hb0 : Below w.heap.size w (w.alloc (.cells #[.slice none 0 0, .int .i64 0] 102)) := (Below.refl _ _).alloc (Nat.le_refl _) _
  have hz00 : w.heap.size < (w.alloc (.cells #[.slice none 0 0, .int .i64 0] 102)).heap.size := by simp
  have hbl := hR.lt
  have HR := Lib.hid (hR.below hb0)
  have HS := Lib.hid hres
  have HB0 := Lib.hid hb0
  have HZ0 := Lib.hid hz00
  obtain ⟨h0, h1, h2⟩ := hR.below hb0
  clear hR hres hb0 hz00
  go_enter Tryz.func54, Tryz.ntmps54
  go_wp2_with fail
  generalize w.alloc (.cells #[.slice none 0 0, .int .i64 0] 102) = w0 at HR HS HB0 HZ0 h0 h1 h2 ⊢
  go_at_call 53
  refine (HN.out w0 HR.out).mono ?_
  rintro e w1 ⟨rfl, hR1, hF1⟩
  have hRb : w.heap.size ≠ b := by omega
  have F1 := Lib.hid hF1
  have S1 := Lib.hid (HS.out.fr hF1 hRb (by simp) HZ0.out)
  have Z1 := Lib.hid (Nat.lt_of_lt_of_le HZ0.out hF1.size)
  have R1 := Lib.hid hR1
  clear h0 h1 h2 hR1 hF1
  go_wp2_with fail
  have hb2 : Below w1.heap.size w1 (w1.alloc (.cells #[.slice none 0 0, .int .i64 0] 102)) := (Below.refl _ _).alloc (Nat.le_refl _) _
  have R2 := Lib.hid (R1.out.below hb2)
  have S2 := Lib.hid (S1.out.below hb2 Z1.out)
  have Z2 := Lib.hid (Nat.lt_of_lt_of_le Z1.out hb2.size)
  have F2 := Lib.hid (F1.out.then_ (hb2.mono F1.out.size))
  clear hb2
  generalize w1.alloc (.cells #[.slice none 0 0, .int .i64 0] 102) = w2 at R2 S2 Z2 F2 ⊢
  go_at_call 55
  refine (rcode_any none 0 0 [] 0 _ RF.none_ (by decide)).mono ?_
  rintro e w3 ⟨rfl, hb3⟩
  have R3 := Lib.hid ((R2.out.below hb3).put a)
  have hR3 := R2.out.below hb3
  have S3 := Lib.hid ((S2.out.below hb3 Z2.out).fr R3.out.2 hRb (by simp) (Nat.lt_of_lt_of_le Z2.out hb3.size))
  have Z3 := Lib.hid (show w.heap.size < (w3.setCell ⟨b, 1, none⟩ (.int .i64 a)).heap.size from Nat.lt_of_lt_of_le (Nat.lt_of_lt_of_le Z2.out hb3.size) R3.out.2.size)
  have F3 := Lib.hid ((F2.out.then_ (hb3.mono F2.out.size)).trans R3.out.2)
  obtain ⟨h0, h1, h2⟩ := hR3
  clear hb3
  go_wp2_with fail
  have RX := Lib.hid R3.out.1
  have SX := S3
  have ZX := Z3
  have FX := F3
  clear S3 Z3 F3 R3 h0 h1 h2
  generalize w3.setCell ⟨b, 1, none⟩ (.int .i64 a) = w4 at RX SX ZX FX ⊢
  go_at_call 82
  refine (one_any 10 _ _).mono ?_
  rintro e w5 ⟨A, rfl, hA, hg, hb⟩
  have hRf := (RX.out.below hb)
  have hFf := (FX.out.then_ (hb.mono FX.out.size))
  obtain ⟨r0, r1, r2, r3⟩ := SX.out.below hb ZX.out
  have hgR : ∀ g, A = some ⟨g, 0, none⟩ → w.heap.size ≠ g := fun g h => by have := hg g h; have := ZX.out; omega
  have P1 := Lib.hid ((hA.setOther (p := ⟨w.heap.size, 0, none⟩) (.slice A 1 1) hgR).setOther (p := ⟨w.heap.size, 1, none⟩) (.int .i64 a) hgR)
  have P2 := Lib.hid ((Fr.after HB0.out hFf).then_ (((Below.refl w.heap.size w5).setCell (p := ⟨w.heap.size, 0, none⟩) (Nat.le_refl _) (.slice A 1 1)).setCell (p := ⟨w.heap.size, 1, none⟩) (Nat.le_refl _) (.int .i64 a)))
  have P3 := Lib.hid ((hRf.setOther (p := ⟨w.heap.size, 0, none⟩) (.slice A 1 1) hRb).setOther (p := ⟨w.heap.size, 1, none⟩) (.int .i64 a) hRb)
  have hcs := res_cells r0 r1 (.slice A 1 1) (.int .i64 a)
  clear hA hg hb hgR hRf hFf
  go_wp2
  generalize (w5.setCell ⟨w.heap.size, 0, none⟩ (.slice A 1 1)).setCell ⟨w.heap.size, 1, none⟩ (.int .i64 a) = wf at P1 P2 P3 hcs ⊢
  obtain ⟨k0, k1⟩ := hcs
  exact bodyPost_ret (v := .tuple #[.string ⟨#[]⟩, .agg #[.slice A 1 1, .int .i64 a]]) (by simp [results, Tryz.results54, go_sem, k0, k1]) rfl ⟨A, _, rfl, P1.out, P3.out, P2.out⟩

set_option maxRecDepth 100000 in
set_option maxHeartbeats 2000000 in
theorem rrtext_ok (b a L : Nat) (s : ByteArray) (w : World) (hR : Rdr w b s a) (hs : s.size ≤ 1000000000) (hl : a + 2 ≤ s.size) (hL : lev (s.extract a s.size) 2 = L) (hL1 : L ≤ 1024) (hL2 : a + 2 + L ≤ s.size) :
    Calls Tryz.prog 54 #[.pointer (some ⟨b, 0, none⟩)] w fun e w' => e = .returned (.tuple #[.string (s.extract (a + 2) (a + 2 + L)), .agg #[.slice none 0 0, .int .i64 0]]) ∧ Rdr w' b s (a + 2 + L) ∧ Fr b none w w' := by
  have hLv : hvf s a 2 0 = (L : Int) := by rw [hvf_lev s a 2 (by omega)]; exact hL
  have HN := Lib.hid (show ∀ W, Rdr W b s a → Calls Tryz.prog 53 #[.pointer (some ⟨b, 0, none⟩), .int .i64 2] W fun e w' => e = .returned (.tuple #[.int .i64 (L : Int), .agg #[.slice none 0 0, .int .i64 0]]) ∧ Rdr w' b s (a + 2) ∧ Fr b none W w' from fun W hW => by rw [← hLv]; exact rrnum_okv b a s 2 W hW hs (by omega) (.inr (.inl rfl)) (by decide) (by rw [hLv]; omega))
  clear hLv hL
  have hd : decide ((1024 : Int) < (L : Int)) = false := by simp only [decide_eq_false_iff_not]; omega
  have e1 : IntKind.i64.wrap ((s.size : Int) - (a : Int)) = (s.size : Int) - (a : Int) := IntWalk.i64_in _ (by omega)
  have e2 : IntKind.i64.wrap ((s.size : Int) - (a : Int) - 2) = (s.size : Int) - (a : Int) - 2 := IntWalk.i64_in _ (by omega)
  have hd2 : decide ((s.size : Int) - (a : Int) - 2 < (L : Int)) = false := by simp only [decide_eq_false_iff_not]; omega
  have e3 : IntKind.i64.wrap ((a : Int) + 2) = ((a + 2 : Nat) : Int) := by rw [IntWalk.i64_in _ (by omega)]; omega
  have e4 : IntKind.i64.wrap (((a + 2 : Nat) : Int) + (L : Int)) = ((a + 2 + L : Nat) : Int) := by rw [IntWalk.i64_in _ (by omega)]; omega
  have hres : Res (w.alloc (.cells #[.slice none 0 0, .int .i64 0] 102)) w.heap.size := ⟨by simp, by simp, by simp, by simp⟩
  have hb0 : Below w.heap.size w (w.alloc (.cells #[.slice none 0 0, .int .i64 0] 102)) := (Below.refl _ _).alloc (Nat.le_refl _) _
  have hz00 : w.heap.size < (w.alloc (.cells #[.slice none 0 0, .int .i64 0] 102)).heap.size := by simp
  have hbl := hR.lt
  have HR := Lib.hid (hR.below hb0)
  have HS := Lib.hid hres
  have HB0 := Lib.hid hb0
  have HZ0 := Lib.hid hz00
  obtain ⟨h0, h1, h2⟩ := hR.below hb0
  clear hR hres hb0 hz00
  go_enter Tryz.func54, Tryz.ntmps54
  go_wp2_with fail
  generalize w.alloc (.cells #[.slice none 0 0, .int .i64 0] 102) = w0 at HR HS HB0 HZ0 h0 h1 h2 ⊢
  go_at_call 53
  refine (HN.out w0 HR.out).mono ?_
  rintro e w1 ⟨rfl, hR1, hF1⟩
  have hRb : w.heap.size ≠ b := by omega
  have F1 := Lib.hid hF1
  have S1 := Lib.hid (HS.out.fr hF1 hRb (by simp) HZ0.out)
  have Z1 := Lib.hid (Nat.lt_of_lt_of_le HZ0.out hF1.size)
  have R1 := Lib.hid hR1
  clear h0 h1 h2 hR1 hF1
  go_wp2_with fail
  have hb2 : Below w1.heap.size w1 (w1.alloc (.cells #[.slice none 0 0, .int .i64 0] 102)) := (Below.refl _ _).alloc (Nat.le_refl _) _
  have R2 := Lib.hid (R1.out.below hb2)
  have S2 := Lib.hid (S1.out.below hb2 Z1.out)
  have Z2 := Lib.hid (Nat.lt_of_lt_of_le Z1.out hb2.size)
  have F2 := Lib.hid (F1.out.then_ (hb2.mono F1.out.size))
  clear hb2
  generalize w1.alloc (.cells #[.slice none 0 0, .int .i64 0] 102) = w2 at R2 S2 Z2 F2 ⊢
  go_at_call 55
  refine (rcode_any none 0 0 [] 0 _ RF.none_ (by decide)).mono ?_
  rintro e w3 ⟨rfl, hb3⟩
  have R3 := Lib.hid ((R2.out.below hb3).put a)
  have hR3 := R2.out.below hb3
  have S3 := Lib.hid ((S2.out.below hb3 Z2.out).fr R3.out.2 hRb (by simp) (Nat.lt_of_lt_of_le Z2.out hb3.size))
  have Z3 := Lib.hid (show w.heap.size < (w3.setCell ⟨b, 1, none⟩ (.int .i64 a)).heap.size from Nat.lt_of_lt_of_le (Nat.lt_of_lt_of_le Z2.out hb3.size) R3.out.2.size)
  have F3 := Lib.hid ((F2.out.then_ (hb3.mono F2.out.size)).trans R3.out.2)
  obtain ⟨h0, h1, h2⟩ := hR3
  clear hb3
  go_wp2_with fail
  have RX := Lib.hid R3.out.1
  have SX := S3
  have ZX := Z3
  have FX := F3
  clear S3 Z3 F3 R3 h0 h1 h2
  generalize w3.setCell ⟨b, 1, none⟩ (.int .i64 a) = w4 at RX SX ZX FX ⊢
  have hput := RX.out.put (a + 2 + L)
  have ec : ((a + 2 + L : Nat) : Int) = (a : Int) + 2 + (L : Int) := by omega
  rw [ec] at hput
  have SY := Lib.hid (SX.out.fr hput.2 hRb (by simp) ZX.out)
  have FY := Lib.hid (Fr.after HB0.out (FX.out.trans hput.2))
  have RY := Lib.hid hput.1
  clear hput
  generalize w4.setCell ⟨b, 1, none⟩ (.int .i64 ((a : Int) + 2 + (L : Int))) = w5 at SY FY RY ⊢
  obtain ⟨y0, y1, y2⟩ := RY.out
  obtain ⟨r0, r1, r2, r3⟩ := SY.out
  have P1 := Lib.hid ((RY.out.setOther (p := ⟨w.heap.size, 0, none⟩) (.slice none 0 0) hRb).setOther (p := ⟨w.heap.size, 1, none⟩) (.int .i64 0) hRb)
  have P2 := Lib.hid (FY.out.then_ (((Below.refl w.heap.size w5).setCell (p := ⟨w.heap.size, 0, none⟩) (Nat.le_refl _) (.slice none 0 0)).setCell (p := ⟨w.heap.size, 1, none⟩) (Nat.le_refl _) (.int .i64 0)))
  have hcs := Lib.hid (res_cells r0 r1 (.slice none 0 0) (.int .i64 0))
  have u1 : ((a + 2 : Nat) : Int) ≤ ((a + 2 + L : Nat) : Int) := by omega
  have u2 : ((a + 2 + L : Nat) : Int) ≤ (s.size : Int) := by omega
  clear e4 e1 e2 hd hd2 hl hL1 hL2 ec
  generalize hM : a + 2 + L = M at y1 u1 u2 P1
  have HM := Lib.hid hM
  clear hM
  generalize hNN : a + 2 = N2 at e3 u1
  have HNN := Lib.hid hNN
  clear hNN
  have u3 : (0 : Int) ≤ (N2 : Int) := Int.natCast_nonneg _
  have u4 : N2 ≤ M := by omega
  have u5 : M ≤ s.size := by omega
  have u6 : (0 : Int) ≤ (M : Int) := Int.natCast_nonneg _
  go_region
  all_goals go_wp2
  rw [HM.out, HNN.out]
  obtain ⟨c0, c1⟩ := hcs.out
  have q1 := P1.out
  have q2 := P2.out
  generalize (w5.setCell ⟨w.heap.size, 0, none⟩ (.slice none 0 0)).setCell ⟨w.heap.size, 1, none⟩ (.int .i64 0) = w6 at c0 c1 q1 q2 ⊢
  exact bodyPost_ret (v := .tuple #[.string (s.extract N2 M), .agg #[.slice none 0 0, .int .i64 0]]) (by simp [results, Tryz.results54, go_sem, c0, c1]) rfl ⟨rfl, ⟨q1.1, q1.2.1, q1.2.2⟩, ⟨q2.os, q2.tape, q2.output, q2.size, q2.block⟩⟩

set_option maxRecDepth 100000 in
set_option maxHeartbeats 2000000 in
theorem rrtext_few (b a : Nat) (s : ByteArray) (w : World) (hR : Rdr w b s a) (hs : s.size ≤ 1000000000) (ha : a ≤ s.size) (hl : s.size < a + 2) :
    Calls Tryz.prog 54 #[.pointer (some ⟨b, 0, none⟩)] w fun e w' => ∃ A at_, e = .returned (.tuple #[.string ⟨#[]⟩, .agg #[.slice A 2 2, .int .i64 at_]]) ∧ RF w' A 2 2 [10, 10] ∧ Rdr w' b s a ∧ Below w.heap.size w w' := by
  have HN := Lib.hid (fun W hW => rrnum_short b a s 2 W hW ha hs (.inr (.inl rfl)) (by omega))
  have hres : Res (w.alloc (.cells #[.slice none 0 0, .int .i64 0] 102)) w.heap.size := ⟨by simp, by simp, by simp, by simp⟩
  have hb0 : Below w.heap.size w (w.alloc (.cells #[.slice none 0 0, .int .i64 0] 102)) := (Below.refl _ _).alloc (Nat.le_refl _) _
  have hz00 : w.heap.size < (w.alloc (.cells #[.slice none 0 0, .int .i64 0] 102)).heap.size := by simp
  have hbl := hR.lt
  have HR := Lib.hid (hR.below hb0)
  have HS := Lib.hid hres
  have HB0 := Lib.hid hb0
  have HZ0 := Lib.hid hz00
  obtain ⟨h0, h1, h2⟩ := hR.below hb0
  clear hR hres hb0 hz00
  go_enter Tryz.func54, Tryz.ntmps54
  go_wp2_with fail
  generalize w.alloc (.cells #[.slice none 0 0, .int .i64 0] 102) = w0 at HR HS HB0 HZ0 h0 h1 h2 ⊢
  go_at_call 53
  refine (HN.out w0 HR.out).mono ?_
  rintro e w1 ⟨A, at_, rfl, hA, hb1⟩
  have hRb : w.heap.size ≠ b := by omega
  have S1 := Lib.hid (HS.out.below hb1 HZ0.out)
  have Z1 := Lib.hid (Nat.lt_of_lt_of_le HZ0.out hb1.size)
  have R1 := Lib.hid (HR.out.below hb1)
  have B1 := Lib.hid (HB0.out.trans (hb1.mono (Nat.le_of_lt HZ0.out)))
  have A1 := Lib.hid hA
  clear h0 h1 h2 hA hb1
  go_wp2_with fail
  have hb2 : Below w1.heap.size w1 (w1.alloc (.cells #[.slice A 1 1, .int .i64 at_] 102)) := (Below.refl _ _).alloc (Nat.le_refl _) _
  have R2 := Lib.hid (R1.out.below hb2)
  have S2 := Lib.hid (S1.out.below hb2 Z1.out)
  have Z2 := Lib.hid (Nat.lt_of_lt_of_le Z1.out hb2.size)
  have B2 := Lib.hid (B1.out.trans (hb2.mono (Nat.le_of_lt Z1.out)))
  have A2 := Lib.hid (A1.out.below hb2)
  have C2 := Lib.hid (show (w1.alloc (.cells #[.slice A 1 1, .int .i64 at_] 102)).cell? ⟨w1.heap.size, 0, none⟩ = some (.slice A 1 1) by simp)
  have ZF := Lib.hid (show w1.heap.size < (w1.alloc (.cells #[.slice A 1 1, .int .i64 at_] 102)).heap.size by simp)
  clear hb2
  generalize w1.alloc (.cells #[.slice A 1 1, .int .i64 at_] 102) = w2 at R2 S2 Z2 B2 A2 C2 ZF ⊢
  go_at_call 55
  refine (rcode_any A 1 1 [10] at_ _ A2.out (by decide)).mono ?_
  rintro e w3 ⟨rfl, hb3⟩
  have R3 := Lib.hid (R2.out.below hb3)
  have S3 := Lib.hid (S2.out.below hb3 Z2.out)
  have Z3 := Lib.hid (Nat.lt_of_lt_of_le Z2.out hb3.size)
  have B3 := Lib.hid (B2.out.trans (hb3.mono (Nat.le_of_lt Z2.out)))
  have A3 := Lib.hid (A2.out.below hb3)
  have c3 : w3.cell? ⟨w1.heap.size, 0, none⟩ = some (.slice A 1 1) := by rw [hb3.cell (p := ⟨w1.heap.size, 0, none⟩) ZF.out]; exact C2.out
  have zf : w1.heap.size < w3.heap.size := Nat.lt_of_lt_of_le ZF.out hb3.size
  obtain ⟨g, hAg, hgc⟩ : ∃ g, A = some ⟨g, 0, none⟩ ∧ w3.cell? ⟨g, 0, none⟩ = some (.int .i64 10) := by
    obtain ⟨_, _, h | ⟨g, hg, hc⟩⟩ := A3.out
    · exact absurd h.1 (by simp)
    · exact ⟨g, hg, hc 0 10 rfl⟩
  subst hAg
  obtain ⟨r0, r1, r2, r3⟩ := S3.out
  have hgl := cell_lt hgc
  have z3 := Z3.out
  generalize w1.heap.size = FB at c3 zf ⊢
  clear hb3 A3 A1 A2 S1 S2 Z1 Z2 B1 B2 R1 R2
  have zne : w3.heap.size ≠ w.heap.size := by omega
  have zg : g ≠ w3.heap.size := by omega
  have zb : FB ≠ w3.heap.size := by omega
  go_wp2_with fail
  have s0 : ∀ o, (w3.alloc o).cell? ⟨w.heap.size, 0, none⟩ = some (.slice none 0 0) := fun o => (World.cell?_alloc_lt w3 o ⟨w.heap.size, 0, none⟩ z3).trans r0
  have s1 : ∀ o, (w3.alloc o).cell? ⟨w.heap.size, 1, none⟩ = some (.int .i64 0) := fun o => (World.cell?_alloc_lt w3 o ⟨w.heap.size, 1, none⟩ z3).trans r1
  have s2 : ∀ o, (w3.alloc o).frozen? ⟨w.heap.size, 0, none⟩ = false := fun o => (World.frozen?_alloc_old w3 o ⟨w.heap.size, 0, none⟩ (Nat.ne_of_lt z3)).trans r2
  have s3 : ∀ o, (w3.alloc o).frozen? ⟨w.heap.size, 1, none⟩ = false := fun o => (World.frozen?_alloc_old w3 o ⟨w.heap.size, 1, none⟩ (Nat.ne_of_lt z3)).trans r3
  go_region
  all_goals go_wp2
  obtain ⟨c0, c1⟩ := res_cells r0 r1 (.slice (some ⟨w3.heap.size, 0, none⟩) 2 2) (.int .i64 a)
  have q1 := (R3.out.setOther (p := ⟨w.heap.size, 0, none⟩) (.slice (some ⟨w3.heap.size, 0, none⟩) 2 2) hRb).setOther (p := ⟨w.heap.size, 1, none⟩) (.int .i64 a) hRb
  have q2 := (B3.out.setCell (p := ⟨w.heap.size, 0, none⟩) (Nat.le_refl _) (.slice (some ⟨w3.heap.size, 0, none⟩) 2 2)).setCell (p := ⟨w.heap.size, 1, none⟩) (Nat.le_refl _) (.int .i64 a)
  have hz5 : ((w3.setCell ⟨w.heap.size, 0, none⟩ (.slice (some ⟨w3.heap.size, 0, none⟩) 2 2)).setCell ⟨w.heap.size, 1, none⟩ (.int .i64 a)).heap.size = w3.heap.size := by simp [World.setCell]
  generalize (w3.setCell ⟨w.heap.size, 0, none⟩ (.slice (some ⟨w3.heap.size, 0, none⟩) 2 2)).setCell ⟨w.heap.size, 1, none⟩ (.int .i64 a) = w5 at c0 c1 q1 q2 hz5 ⊢
  have z5 : w.heap.size < w5.heap.size := by omega
  have hB6 : Below w5.heap.size w5 (w5.alloc (.cells #[.int .i64 10, .int .i64 10] 57)) := (Below.refl _ _).alloc (Nat.le_refl _) _
  have f0 : (w5.alloc (.cells #[.int .i64 10, .int .i64 10] 57)).cell? ⟨w.heap.size, 0, none⟩ = some (.slice (some ⟨w3.heap.size, 0, none⟩) 2 2) := (World.cell?_alloc_lt w5 _ ⟨w.heap.size, 0, none⟩ z5).trans c0
  have f1 : (w5.alloc (.cells #[.int .i64 10, .int .i64 10] 57)).cell? ⟨w.heap.size, 1, none⟩ = some (.int .i64 a) := (World.cell?_alloc_lt w5 _ ⟨w.heap.size, 1, none⟩ z5).trans c1
  have g0 : (w5.alloc (.cells #[.int .i64 10, .int .i64 10] 57)).cell? ⟨w3.heap.size, 0, none⟩ = some (.int .i64 10) := by rw [← hz5]; simp
  have g1 : (w5.alloc (.cells #[.int .i64 10, .int .i64 10] 57)).cell? ⟨w3.heap.size, 1, none⟩ = some (.int .i64 10) := by rw [← hz5]; simp
  have q3 := q1.below hB6
  have q4 := q2.trans (hB6.mono (Nat.le_of_lt z5))
  generalize w5.alloc (.cells #[.int .i64 10, .int .i64 10] 57) = w6 at f0 f1 g0 g1 q3 q4 ⊢
  refine bodyPost_ret (v := .tuple #[.string ⟨#[]⟩, .agg #[.slice (some ⟨w3.heap.size, 0, none⟩) 2 2, .int .i64 a]]) (by simp [results, Tryz.results54, go_sem, f0, f1]) rfl ⟨_, _, rfl, ⟨rfl, Nat.le_refl _, .inr ⟨_, rfl, fun j x hx => ?_⟩⟩, ⟨q3.1, q3.2.1, q3.2.2⟩, ⟨q4.os, q4.tape, q4.output, q4.size, q4.block⟩⟩
  match j, hx with
  | 0, hx => simp at hx; subst hx; exact g0
  | 1, hx => simp at hx; subst hx; exact g1
end Go.Proofs.YtmmpknfkncgjpaaGreatDoor
