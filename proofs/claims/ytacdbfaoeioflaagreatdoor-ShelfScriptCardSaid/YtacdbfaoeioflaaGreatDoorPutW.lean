/-
  write (package shelf): a record is written twice, with mark 0, with mark 1; then the block lies there; by a contract.
-/
import Derived.Test.YtacdbfaoeioflaaGreatDoorSectors
namespace Go.Proofs.YtacdbfaoeioflaaGreatDoor
open Go.RowKit

section
variable {F : Nat → Prop} {w w0 w1 : World} {sb mb pb : Nat} {s : St} {L : Lay} {odd : List Nat} {lost : Bool}
theorem Sg.ahead (hb : Below w.heap.size w w0) (h : Sg F w0 w1 sb mb pb s L odd lost) : Sg F w w1 sb mb pb s L odd lost := Goes.trans (F1 := F) (fun _ h => .inl h) (Keeps.of_below hb) h
theorem sg_write (h : Sg F w0 w1 sb mb pb s L odd lost) (hg : Good s) (hn : s.wait.length ≤ 900) (hc : s.n ≤ 1000000) (i : Int) (t : ByteArray) (ht : t.size ≤ 9223372036854775807) :
    Calls Tryz.prog 17 #[.pointer (some ⟨pb, 0, none⟩), .int .i64 i, .string t] w1 fun e w2 => e = .returned (.int .i64 (writeE s i t)) ∧ Sg F w0 w2 sb mb pb (writeS s i t) L odd lost := by
  obtain ⟨F1, h1, h2⟩ := h.go
  obtain ⟨Fp, hP, hk⟩ := h1.pl
  exact (write_any pb s Fp i t w1 hP hg hn hc ht).mono fun e w' ⟨he, hg'⟩ => ⟨he, h2 _ _ _ _ _ (hk _ _ hg')⟩
theorem sg_sync (h : Sg F w0 w1 sb mb pb s L odd lost) (hg : Good s) (hn : s.wait.length ≤ 1000) (hc : s.n ≤ 1000000) :
    Calls Tryz.prog 19 #[.pointer (some ⟨pb, 0, none⟩)] w1 fun e w2 => e = .returned (.int .i64 (syncE s)) ∧ Sg F w0 w2 sb mb pb (syncS s) L odd lost := by
  obtain ⟨F1, h1, h2⟩ := h.go
  obtain ⟨Fp, hP, hk⟩ := h1.pl
  exact (sync_any pb s Fp w1 hP hg hn hc).mono fun e w' ⟨he, hg'⟩ => ⟨he, h2 _ _ _ _ _ (hk _ _ hg')⟩
/-- The map alone turns. -/
theorem Sg.turned (h : Sg F w0 w1 sb mb pb s L odd lost) {w2 : World} {L2 : Lay} (ht : w1.mapTurned w2 mb) (h2 : Tm w2 mb L2) : Sg F w0 w2 sb mb pb s L2 odd lost := by
  obtain ⟨F1, h1, k⟩ := h.go
  obtain ⟨vb, hS, hk⟩ := h1.own
  have hg := ht.grown
  have hB : ∀ k, k < w1.heap.size → k ≠ mb → w2.heap[k]? = w1.heap[k]? := fun k hk hn => hg.block k hk (fun e => hn (Option.some.inj e))
  refine k _ _ _ _ _ (hk w2 vb L2 odd lost ⟨hS.row.of_block (hB _ hS.row.lt (Ne.symm hS.ne)), h2, owns_kept hS.bad fun g hg' => hB g (owns_lt hS.bad hg') (fun e => hS.ne_bad_map (by rw [hg', e]))⟩ ⟨hg.os, hg.tape, hg.output, hg.size, fun k hk hn => hB k hk (fun e => hn (.inr (.inl e)))⟩ (fun k hk => .inl hk))
end
/-- The five ways of it. -/
theorem wr_a {s : St} {i : Nat} {b : Bk} (h1 : writeE s i (recB b 0) ≠ 0) : wrE s i b = writeE s i (recB b 0) ∧ wrS s i b = writeS s i (recB b 0) := by
  have : wr1E s i (recB b 0) = writeE s i (recB b 0) := if_pos h1
  unfold wrE wrS
  rw [this, if_pos h1, if_pos h1]
  exact ⟨rfl, if_pos h1⟩
theorem wr_b {s : St} {i : Nat} {b : Bk} (h1 : writeE s i (recB b 0) = 0) (h2 : syncE (writeS s i (recB b 0)) ≠ 0) : wrE s i b = syncE (writeS s i (recB b 0)) ∧ wrS s i b = syncS (writeS s i (recB b 0)) := by
  have e1 : wr1E s i (recB b 0) = syncE (writeS s i (recB b 0)) := if_neg (by omega)
  have e2 : wr1S s i (recB b 0) = syncS (writeS s i (recB b 0)) := if_neg (by omega)
  unfold wrE wrS
  rw [e1, if_pos h2, if_pos h2, e2]
  exact ⟨rfl, rfl⟩
theorem wr_c {s : St} {i : Nat} {b : Bk} (h1 : writeE s i (recB b 0) = 0) (h2 : syncE (writeS s i (recB b 0)) = 0) : wrE s i b = wr1E (syncS (writeS s i (recB b 0))) i (recB b 1) ∧ wrS s i b = wr1S (syncS (writeS s i (recB b 0))) i (recB b 1) := by
  have e1 : wr1E s i (recB b 0) = syncE (writeS s i (recB b 0)) := if_neg (by omega)
  have e2 : wr1S s i (recB b 0) = syncS (writeS s i (recB b 0)) := if_neg (by omega)
  unfold wrE wrS
  rw [e1, if_neg (by omega), if_neg (by omega), e2]
  exact ⟨rfl, rfl⟩
theorem wr1_no {s : St} {i : Nat} {t : ByteArray} (h : writeE s i t ≠ 0) : wr1E s i t = writeE s i t ∧ wr1S s i t = writeS s i t := ⟨if_pos h, if_pos h⟩
theorem wr1_yes {s : St} {i : Nat} {t : ByteArray} (h : writeE s i t = 0) : wr1E s i t = syncE (writeS s i t) ∧ wr1S s i t = syncS (writeS s i t) := ⟨if_neg (by omega), if_neg (by omega)⟩
/-- What lies there behind it. -/
def wrY (L : Lay) (s : St) (i : Nat) (b : Bk) : Lay := if wrE s i b = 0 then putL L i b else L

set_option maxRecDepth 100000 in
set_option maxHeartbeats 4000000 in
theorem swrite_any {F : Nat → Prop} {w : World} {sb mb pb : Nat} {s : St} {L : Lay} {odd : List Nat} {lost : Bool} {n k : Nat} (h : SF w sb mb pb s L odd lost F) (hT : Tab w) (hF : ¬ F 0) (hR : Rest s n k) (hk : k ≤ 900000) {b : Bk} (hb : refE b 1 = 0) {i : Nat} (hi : Fre L i) :
    Calls Tryz.prog 49 #[.pointer (some ⟨sb, 0, none⟩), b.val, .int .i64 (i : Int)] w fun e w' => e = .returned (.int .i64 (wrE s i b)) ∧ Sg F w w' sb mb pb (wrS s i b) (wrY L s i b) odd lost := by
  have hb0 : Below w.heap.size w (w.alloc (.cells b.cells 37)) := (Below.refl _ _).alloc (Nat.le_refl _) _
  have hz := (refE_zero.1 hb).2
  have h0 := refE_mark hb
  have HF := Lib.hid hF
  have HFz := Lib.hid (fun (e : F w.heap.size) => Nat.lt_irrefl _ (h.lt _ e))
  have HB := Lib.hid hb0
  have A0 := Lib.hid (AB.fresh w b)
  have T0 := Lib.hid (hT.below hb0)
  have S0 := Lib.hid (Sg.start (h.below hb0))
  have g0 := hR.good
  have hw0 := hR.wait
  have hn0 := hR.few
  have hrs0 := recB_size hz 0
  have hrs1 := recB_size hz 1
  have r0 := recV_yes h0
  have r1 := recV_yes hb
  obtain ⟨q0, hq0⟩ : ∃ x, recB b 0 = x := ⟨_, rfl⟩
  obtain ⟨q1, hq1⟩ : ∃ x, recB b 1 = x := ⟨_, rfl⟩
  have RA := Lib.hid (fun w (T : Tab w) => h0 ▸ r0 ▸ record_any b 0 w T (by omega))
  have RB := Lib.hid (fun w (T : Tab w) => hb ▸ r1 ▸ record_any b 1 w T (by omega))
  have Wa := @wr_a s i b
  have Wb := @wr_b s i b
  have Wc := @wr_c s i b
  have HYY := Lib.hid (show wrE s i b ≠ 0 → wrY L s i b = L from fun e => if_neg e)
  have HYP := Lib.hid (show wrE s i b = 0 → wrY L s i b = putL L i b from fun e => if_pos e)
  rw [hq0] at RA Wa Wb Wc hrs0
  rw [hq1] at RB Wc hrs1
  have HI := Lib.hid hi
  have HBk := Lib.hid hb
  have hwl : s.wait.length = 0 := by rw [hw0]; rfl
  clear hT hb0 hF h r0 r1 hq0 hq1 hi hw0 hb h0 hR
  -- the four calls
  have g1 := g0.write i q0
  have n1 := write_n s i q0
  have l1 := write_wait s i q0
  generalize hs1 : writeS s i q0 = s1 at g1 n1 l1 Wa Wb Wc
  generalize he1 : writeE s i q0 = e1 at Wa Wb Wc
  have g2 := g1.sync
  have n2 := sync_n s1
  have l2 := sync_wait s1
  generalize hs2 : syncS s1 = s2 at g2 n2 l2 Wb Wc
  generalize he2 : syncE s1 = e2 at Wb Wc
  have W1 := @wr1_no s2 i q1
  have W2 := @wr1_yes s2 i q1
  have g3 := g2.write i q1
  have n3 := write_n s2 i q1
  have l3 := write_wait s2 i q1
  generalize hs3 : writeS s2 i q1 = s3 at g3 n3 l3 W1 W2
  generalize he3 : writeE s2 i q1 = e3 at W1 W2
  generalize hs4 : syncS s3 = s4 at W2
  generalize he4 : syncE s3 = e4 at W2
  have P1 := Lib.hid (fun w1 (S : Sg F (w.alloc (.cells b.cells 37)) w1 sb mb pb s L odd lost) => hs1 ▸ he1 ▸ sg_write S g0 (by omega) (by omega) i q0 (by omega))
  have P2 := Lib.hid (fun w1 (S : Sg F (w.alloc (.cells b.cells 37)) w1 sb mb pb s1 L odd lost) => hs2 ▸ he2 ▸ sg_sync S g1 (by omega) (by omega))
  have P3 := Lib.hid (fun w1 (S : Sg F (w.alloc (.cells b.cells 37)) w1 sb mb pb s2 L odd lost) => hs3 ▸ he3 ▸ sg_write S g2 (by omega) (by omega) i q1 (by omega))
  have P4 := Lib.hid (fun w1 (S : Sg F (w.alloc (.cells b.cells 37)) w1 sb mb pb s3 L odd lost) => hs4 ▸ he4 ▸ sg_sync S g3 (by omega) (by omega))
  clear hs1 he1 hs2 he2 hs3 he3 hs4 he4 g0 g1 g2 g3 n1 n2 n3 l1 l2 l3 hwl hn0
  obtain ⟨wE, hwE⟩ : ∃ x, wrE s i b = x := ⟨_, rfl⟩
  obtain ⟨wS, hwS⟩ : ∃ x, wrS s i b = x := ⟨_, rfl⟩
  obtain ⟨wY, hwY⟩ : ∃ x, wrY L s i b = x := ⟨_, rfl⟩
  rw [hwE, hwS] at Wa Wb Wc
  rw [hwE, hwY] at HYY HYP
  rw [hwE, hwS, hwY]
  have WA := Lib.hid Wa
  have WB := Lib.hid Wb
  have WC := Lib.hid Wc
  have WD := Lib.hid W1
  have WE := Lib.hid W2
  clear hwE hwS hwY Wa Wb Wc W1 W2
  go_enter Tryz.func49, Tryz.ntmps49
  go_wp2_with fail
  generalize hW0 : w.alloc (.cells #[.int .i64 b.id, .int .i64 b.ver, .string b.data] 37) = w0 at HB A0 T0 S0 P1 P2 P3 P4 ⊢
  refine wp_loop_rounds 3 ?_
  rw [rounds_succ]
  obtain ⟨d0, d1, d2⟩ := A0.out.all
  go_wp2_with fail
  go_at_call 73
  refine (RA.out _ T0.out).mono ?_
  rintro e w1 ⟨rfl, k2⟩
  have S1 := Lib.hid (S0.out.below k2)
  have A1 := Lib.hid (A0.out.below k2)
  have T1 := Lib.hid (T0.out.below k2)
  clear k2 d0 d1 d2
  obtain ⟨c0, -, -⟩ := S1.out.cells
  go_wp2_with fail
  go_at_call 17
  refine (P1.out _ S1.out).mono ?_
  rintro e w2 ⟨rfl, k2⟩
  have S2 := Lib.hid k2
  clear k2 c0
  by_cases h1 : e1 = 0
  · obtain ⟨c0, -, -⟩ := S2.out.cells
    have WB1 := Lib.hid (WB.out h1)
    have WC1 := Lib.hid (WC.out h1)
    subst h1
    go_wp2_with fail
    go_at_call 19
    refine (P2.out _ S2.out).mono ?_
    rintro e w3 ⟨rfl, k2⟩
    have S3 := Lib.hid k2
    clear k2 c0
    by_cases h2 : e2 = 0
    · have WC2 := Lib.hid (WC1.out h2)
      subst h2
      have A3 := Lib.hid (S3.out.ab A0.out HFz.out)
      have T3 := Lib.hid (S3.out.tab T0.out HF.out)
      obtain ⟨d0, d1, d2⟩ := A3.out.all
      go_wp2_with fail
      rw [rounds_succ]
      obtain ⟨c0, -, -⟩ := S3.out.cells
      go_wp2_with fail
      go_at_call 73
      refine (RB.out _ T3.out).mono ?_
      rintro e w4 ⟨rfl, k2⟩
      have S4 := Lib.hid (S3.out.below k2)
      have A4 := Lib.hid (A3.out.below k2)
      clear k2 d0 d1 d2 c0
      obtain ⟨c0, -, -⟩ := S4.out.cells
      go_wp2_with fail
      go_at_call 17
      refine (P3.out _ S4.out).mono ?_
      rintro e w5 ⟨rfl, k2⟩
      have S5 := Lib.hid k2
      clear k2 c0
      by_cases h3 : e3 = 0
      · obtain ⟨c0, -, -⟩ := S5.out.cells
        have WE1 := Lib.hid (WE.out h3)
        subst h3
        go_wp2_with fail
        go_at_call 19
        refine (P4.out _ S5.out).mono ?_
        rintro e w6 ⟨rfl, k2⟩
        have S6 := Lib.hid k2
        clear k2 c0
        obtain ⟨z1, z2⟩ := WE1.out
        obtain ⟨z3, z4⟩ := WC2.out
        rw [z1] at z3
        rw [z2] at z4
        subst z3
        subst z4
        by_cases h4 : wE = 0
        · obtain rfl := HYP.out h4
          subst h4
          have A6 := Lib.hid (S6.out.ab A0.out HFz.out)
          obtain ⟨d0, d1, d2⟩ := A6.out.all
          obtain ⟨-, c1, -⟩ := S6.out.cells
          have hbd : Below w6.heap.size w6 w6.drew := (Below.refl _ _).drew
          have S7 := Lib.hid (S6.out.below hbd)
          obtain ⟨w7, hrun, k1, k2⟩ := S7.out.tm.put HBk.out HI.out
          have S8 := Lib.hid (S7.out.turned k2 k1)
          clear k1 k2 hbd
          go_wp2_with fail
          rw [rounds_succ]
          go_wp2_with fail
          go_region
          all_goals
            go_wp2
            go_ret
            exact ⟨rfl, Sg.ahead HB.out S8.out⟩
        · obtain rfl : wY = L := HYY.out h4
          have hbad2 : (wE == 0) = false := by simpa using h4
          go_wp2
          go_ret
          exact ⟨rfl, Sg.ahead HB.out S6.out⟩
      · obtain ⟨z1, z2⟩ := WD.out h3
        obtain ⟨z3, z4⟩ := WC2.out
        rw [z1] at z3
        rw [z2] at z4
        subst z3
        subst z4
        obtain rfl : wY = L := HYY.out h3
        have hbad2 : (wE == 0) = false := by simpa using h3
        go_wp2
        go_ret
        exact ⟨rfl, Sg.ahead HB.out S5.out⟩
    · obtain ⟨rfl, rfl⟩ := WB1.out h2
      obtain rfl : wY = L := HYY.out h2
      have hbad2 : (wE == 0) = false := by simpa using h2
      go_wp2
      go_ret
      exact ⟨rfl, Sg.ahead HB.out S3.out⟩
  · obtain ⟨rfl, rfl⟩ := WA.out h1
    obtain rfl : wY = L := HYY.out h1
    have hbad2 : (wE == 0) = false := by simpa using h1
    go_wp2
    go_ret
    exact ⟨rfl, Sg.ahead HB.out S2.out⟩
end Go.Proofs.YtacdbfaoeioflaaGreatDoor
