/-
  put of the document's own shelf (weirkeepref09), by contracts.
-/
import Derived.Test.YtacdbfaoeioflaaGreatDoorRlay
import Derived.Test.YtacdbfaoeioflaaGreatDoorRparse
import Derived.Test.YtacdbfaoeioflaaGreatDoorPut9
namespace Go.Proofs.YtacdbfaoeioflaaGreatDoor
open Go.RowKit

section
variable {F : Nat → Prop} {w w0 w1 : World} {rb rp : Nat} {s : St} {L : Lay} {odd : List Nat} {lost : Bool}
theorem RSF.c0 (h : RSF w rb rp s L odd lost F) : w.cell? ⟨rb, 0, none⟩ = some (.pointer (some ⟨rp, 0, none⟩)) ∧ w.cell? ⟨rb, 3, none⟩ = some (.bool lost) := by
  obtain ⟨Fp, vo, g, h1, h2, h3, h4⟩ := h
  exact ⟨h2.cells.1, h2.cells.2.2.2⟩
theorem RSg.c0 (h : RSg F w w1 rb rp s L odd lost) : w1.cell? ⟨rb, 0, none⟩ = some (.pointer (some ⟨rp, 0, none⟩)) ∧ w1.cell? ⟨rb, 3, none⟩ = some (.bool lost) := by
  obtain ⟨F1, h1, h2, h3⟩ := h; exact h1.c0
theorem RSF.gone (h : RSF w rb rp s L odd lost F) : w.cell? ⟨rp, 2, none⟩ = some (.bool s.gone) := by
  obtain ⟨Fp, vo, g, ⟨vi, vw, h1, -⟩, h2, h3, h4⟩ := h
  obtain ⟨-, -, c2, -⟩ := h1.cells
  exact c2
theorem rsg_write (h : RSg F w0 w1 rb rp s L odd lost) (hg : Good s) (hn : s.wait.length ≤ 900) (hc : s.n ≤ 1000000) (i : Int) (t : ByteArray) (ht : t.size ≤ 9223372036854775807) :
    Calls Tryz.prog 18 #[.pointer (some ⟨rp, 0, none⟩), .int .i64 i, .string t] w1 fun e w2 => e = .returned (.int .i64 (writeE s i t)) ∧ RSg F w0 w2 rb rp (writeS s i t) L odd lost := by
  obtain ⟨F1, h1, h2⟩ := h.go
  obtain ⟨Fp, hP, hk⟩ := h1.pl
  exact (rwrite_any rp s Fp i t w1 hP hg hn hc ht).mono fun e w' ⟨he, hg'⟩ => ⟨he, h2 _ _ _ _ _ (hk _ _ hg')⟩
theorem rsg_sync (h : RSg F w0 w1 rb rp s L odd lost) (hg : Good s) (hc : s.n ≤ 1000000) :
    Calls Tryz.prog 20 #[.pointer (some ⟨rp, 0, none⟩)] w1 fun e w2 => e = .returned (.int .i64 (syncE s)) ∧ RSg F w0 w2 rb rp (syncS s) L odd lost := by
  obtain ⟨F1, h1, h2⟩ := h.go
  obtain ⟨Fp, hP, hk⟩ := h1.pl
  exact (rsync_any rp s Fp w1 hP hg hc).mono fun e w' ⟨he, hg'⟩ => ⟨he, h2 _ _ _ _ _ (hk _ _ hg')⟩
/-- lay, at a shelf beside other things. -/
theorem rsg_lay (h : RSg F w0 w1 rb rp s L odd lost) {i : Nat} (hi : i < L.length) {b : Bk} (hb : refE b 1 = 0) :
    Calls Tryz.prog 46 #[.pointer (some ⟨rb, 0, none⟩), .int .i64 i, b.val] w1 fun e w2 => e = .returned (.tuple #[]) ∧ RSg F w0 w2 rb rp s (layL L i b) odd lost := by
  obtain ⟨F1, h1, h2⟩ := h.go
  obtain ⟨vo, g, hS, hk⟩ := h1.own
  exact (rlay_row hS hi hb).mono fun e w' ⟨he, k1, k2⟩ => ⟨he, h2 _ _ _ _ _ (hk _ vo g _ _ _ k1 k2 (.inl rfl) (fun k hk => .inl hk))⟩
theorem rsf_at (h : RSF w rb rp s L odd lost F) (id : Int) :
    Calls Tryz.prog 51 #[.pointer (some ⟨rb, 0, none⟩), .int .i64 id] w fun e w' => e = .returned (.int .i64 (atI L id)) ∧ w = w' := by
  obtain ⟨vo, g, hS, hk⟩ := h.own
  exact rat_row hS id
theorem RSF.lays (h : RSF w rb rp s L odd lost F) : ∃ g, w.cell? ⟨rb, 1, none⟩ = some (.slice (some ⟨g, 0, none⟩) L.length L.length) ∧ ∀ i, i < L.length → w.cell? ⟨g, i * 3, none⟩ = some (.int .i64 (bkA L i).id) ∧ w.cell? ⟨g, i * 3 + 1, none⟩ = some (.int .i64 (bkA L i).ver) ∧ w.cell? ⟨g, i * 3 + 2, none⟩ = some (.string (bkA L i).data) := by
  obtain ⟨Fp, vo, g, h1, h2, h3, h4⟩ := h
  exact ⟨g, h2.cells.2.1, fun i hi => h2.sec hi⟩
theorem RSg.sf (h : RSg F w w1 rb rp s L odd lost) : ∃ F1, RSF w1 rb rp s L odd lost F1 := by obtain ⟨F1, h1, -⟩ := h; exact ⟨F1, h1⟩
/-- A Put or Drop has failed. -/
theorem RSg.setLost (h : RSg F w0 w1 rb rp s L odd lost) : RSg F w0 (w1.setCell ⟨rb, 3, none⟩ (.bool true)) rb rp s L odd true ∧ w1.frozen? ⟨rb, 3, none⟩ = false := by
  obtain ⟨F1, h1, h2⟩ := h.go
  obtain ⟨vo, g, hS, hk⟩ := h1.own
  exact ⟨h2 _ _ _ _ _ (hk _ vo g _ _ _ hS.setLost ((Keeps.refl _ w1).set (b := rb) (o := 3) (.inl (.inl rfl)) (.bool true)) (.inl rfl) (fun k hk => .inl hk)), hS.row.frozen 3⟩
end
set_option maxRecDepth 100000 in
set_option maxHeartbeats 4000000 in
theorem rput1_any {F : Nat → Prop} {w : World} {rb rp : Nat} {s : St} {L : Lay} {odd : List Nat} {lost : Bool} {n k : Nat} (h : RSF w rb rp s L odd lost F) (hR : Rest s n k) (hk : k ≤ 900000) {b : Bk} (hb : refE b 1 = 0) (i : Nat) :
    Calls Tryz.prog 52 #[.pointer (some ⟨rb, 0, none⟩), .int .i64 (i : Int), b.val] w fun e w' => e = .returned (.int .i64 (wrE s i b)) ∧ RSg F w w' rb rp (wrS s i b) L odd lost := by
  have hb0 : Below w.heap.size w (w.alloc (.cells b.cells 37)) := (Below.refl _ _).alloc (Nat.le_refl _) _
  have hz := (refE_zero.1 hb).2
  have h0 := refE_mark hb
  have HFz := Lib.hid (fun (e : F w.heap.size) => Nat.lt_irrefl _ (h.lt _ e))
  have HB := Lib.hid hb0
  have A0 := Lib.hid (AB.fresh w b)
  have S0 := Lib.hid (RSg.start (h.below hb0))
  have g0 := hR.good
  have hw0 := hR.wait
  have hn0 := hR.few
  have hrs0 := recB_size hz 0
  have hrs1 := recB_size hz 1
  have r0 := recV_yes h0
  have r1 := recV_yes hb
  obtain ⟨q0, hq0⟩ : ∃ x, recB b 0 = x := ⟨_, rfl⟩
  obtain ⟨q1, hq1⟩ : ∃ x, recB b 1 = x := ⟨_, rfl⟩
  have RA := Lib.hid (fun w => h0 ▸ r0 ▸ rrec_any b 0 w)
  have RB := Lib.hid (fun w => hb ▸ r1 ▸ rrec_any b 1 w)
  have Wa := @wr_a s i b
  have Wb := @wr_b s i b
  have Wc := @wr_c s i b
  rw [hq0] at RA Wa Wb Wc hrs0
  rw [hq1] at RB Wc hrs1
  have hwl : s.wait.length = 0 := by rw [hw0]; rfl
  clear hb0 h r0 r1 hq0 hq1 hw0 hb h0 hR
  -- the four calls
  have g1 := g0.write i q0
  have n1 := write_n s i q0
  have l1 := write_wait s i q0
  generalize hs1 : writeS s i q0 = s1 at g1 n1 l1 Wa Wb Wc
  generalize he1 : writeE s i q0 = e1 at Wa Wb Wc
  have g2 := g1.sync
  have n2 := sync_n s1
  have l2 := sync_wait s1
  generalize hs2 : syncS s1 = s2 at g2 n2 l2 Wb Wc
  generalize he2 : syncE s1 = e2 at Wb Wc
  have W1 := @wr1_no s2 i q1
  have W2 := @wr1_yes s2 i q1
  have g3 := g2.write i q1
  have n3 := write_n s2 i q1
  have l3 := write_wait s2 i q1
  generalize hs3 : writeS s2 i q1 = s3 at g3 n3 l3 W1 W2
  generalize he3 : writeE s2 i q1 = e3 at W1 W2
  generalize hs4 : syncS s3 = s4 at W2
  generalize he4 : syncE s3 = e4 at W2
  have P1 := Lib.hid (fun w1 (S : RSg F (w.alloc (.cells b.cells 37)) w1 rb rp s L odd lost) => hs1 ▸ he1 ▸ rsg_write S g0 (by omega) (by omega) i q0 (by omega))
  have P2 := Lib.hid (fun w1 (S : RSg F (w.alloc (.cells b.cells 37)) w1 rb rp s1 L odd lost) => hs2 ▸ he2 ▸ rsg_sync S g1 (by omega))
  have P3 := Lib.hid (fun w1 (S : RSg F (w.alloc (.cells b.cells 37)) w1 rb rp s2 L odd lost) => hs3 ▸ he3 ▸ rsg_write S g2 (by omega) (by omega) i q1 (by omega))
  have P4 := Lib.hid (fun w1 (S : RSg F (w.alloc (.cells b.cells 37)) w1 rb rp s3 L odd lost) => hs4 ▸ he4 ▸ rsg_sync S g3 (by omega))
  clear hs1 he1 hs2 he2 hs3 he3 hs4 he4 g0 g1 g2 g3 n1 n2 n3 l1 l2 l3 hwl hn0
  obtain ⟨wE, hwE⟩ : ∃ x, wrE s i b = x := ⟨_, rfl⟩
  obtain ⟨wS, hwS⟩ : ∃ x, wrS s i b = x := ⟨_, rfl⟩
  rw [hwE, hwS] at Wa Wb Wc
  rw [hwE, hwS]
  have WA := Lib.hid Wa
  have WB := Lib.hid Wb
  have WC := Lib.hid Wc
  have WD := Lib.hid W1
  have WE := Lib.hid W2
  clear hwE hwS Wa Wb Wc W1 W2
  go_enter Tryz.func52, Tryz.ntmps52
  go_wp2_with fail
  generalize hW0 : w.alloc (.cells #[.int .i64 b.id, .int .i64 b.ver, .string b.data] 37) = w0 at HB A0 S0 P1 P2 P3 P4 ⊢
  refine wp_loop_rounds 3 ?_
  rw [rounds_succ]
  obtain ⟨d0, d1, d2⟩ := A0.out.all
  go_wp2_with fail
  go_at_call 37
  refine (RA.out _).mono ?_
  rintro e w1 ⟨rfl, k2⟩
  have S1 := Lib.hid (S0.out.below k2)
  have A1 := Lib.hid (A0.out.below k2)
  clear k2 d0 d1 d2
  obtain ⟨c0, -⟩ := S1.out.c0
  go_wp2_with fail
  go_at_call 18
  refine (P1.out _ S1.out).mono ?_
  rintro e w2 ⟨rfl, k2⟩
  have S2 := Lib.hid k2
  clear k2 c0
  by_cases h1 : e1 = 0
  · obtain ⟨c0, -⟩ := S2.out.c0
    have WB1 := Lib.hid (WB.out h1)
    have WC1 := Lib.hid (WC.out h1)
    subst h1
    go_wp2_with fail
    go_at_call 20
    refine (P2.out _ S2.out).mono ?_
    rintro e w3 ⟨rfl, k2⟩
    have S3 := Lib.hid k2
    clear k2 c0
    by_cases h2 : e2 = 0
    · have WC2 := Lib.hid (WC1.out h2)
      subst h2
      have A3 := Lib.hid (S3.out.ab A0.out HFz.out)
      obtain ⟨d0, d1, d2⟩ := A3.out.all
      go_wp2_with fail
      rw [rounds_succ]
      obtain ⟨c0, -⟩ := S3.out.c0
      go_wp2_with fail
      go_at_call 37
      refine (RB.out _).mono ?_
      rintro e w4 ⟨rfl, k2⟩
      have S4 := Lib.hid (S3.out.below k2)
      have A4 := Lib.hid (A3.out.below k2)
      clear k2 d0 d1 d2 c0
      obtain ⟨c0, -⟩ := S4.out.c0
      go_wp2_with fail
      go_at_call 18
      refine (P3.out _ S4.out).mono ?_
      rintro e w5 ⟨rfl, k2⟩
      have S5 := Lib.hid k2
      clear k2 c0
      by_cases h3 : e3 = 0
      · obtain ⟨c0, -⟩ := S5.out.c0
        have WE1 := Lib.hid (WE.out h3)
        subst h3
        go_wp2_with fail
        go_at_call 20
        refine (P4.out _ S5.out).mono ?_
        rintro e w6 ⟨rfl, k2⟩
        have S6 := Lib.hid k2
        clear k2 c0
        obtain ⟨z1, z2⟩ := WE1.out
        obtain ⟨z3, z4⟩ := WC2.out
        rw [z1] at z3
        rw [z2] at z4
        subst z3
        subst z4
        by_cases h4 : wE = 0
        · subst h4
          have A6 := Lib.hid (S6.out.ab A0.out HFz.out)
          obtain ⟨d0, d1, d2⟩ := A6.out.all
          go_wp2_with fail
          rw [rounds_succ]
          go_wp2
          go_ret
          exact ⟨rfl, RSg.ahead HB.out S6.out⟩
        · have hbad2 : (wE == 0) = false := by simpa using h4
          go_wp2
          go_ret
          exact ⟨rfl, RSg.ahead HB.out S6.out⟩
      · obtain ⟨z1, z2⟩ := WD.out h3
        obtain ⟨z3, z4⟩ := WC2.out
        rw [z1] at z3
        rw [z2] at z4
        subst z3
        subst z4
        have hbad2 : (wE == 0) = false := by simpa using h3
        go_wp2
        go_ret
        exact ⟨rfl, RSg.ahead HB.out S5.out⟩
    · obtain ⟨rfl, rfl⟩ := WB1.out h2
      have hbad2 : (wE == 0) = false := by simpa using h2
      go_wp2
      go_ret
      exact ⟨rfl, RSg.ahead HB.out S3.out⟩
  · obtain ⟨rfl, rfl⟩ := WA.out h1
    have hbad2 : (wE == 0) = false := by simpa using h1
    go_wp2
    go_ret
    exact ⟨rfl, RSg.ahead HB.out S2.out⟩
end Go.Proofs.YtacdbfaoeioflaaGreatDoor
