/-
  write (package shelf): a record is written twice, with mark 0, with mark 1; then the block lies there; by a contract.

  refusals (package shelf): all that is in the way of a Put, by a contract.

  Put (package shelf), by a contract.
-/
import Derived.Test.YtmmpknfkncgjpaaGreatDoorM29
namespace Go.Proofs.YtmmpknfkncgjpaaGreatDoor
open Go.RowKit

section
variable {F : Nat → Prop} {w w0 w1 : World} {sb mb pb : Nat} {s : St} {L : Lay} {odd : List Nat} {lost : Bool}
theorem Sg.ahead (hb : Below w.heap.size w w0) (h : Sg F w0 w1 sb mb pb s L odd lost) : Sg F w w1 sb mb pb s L odd lost := Goes.trans (F1 := F) (fun _ h => .inl h) (Keeps.of_below hb) h
theorem sg_write (h : Sg F w0 w1 sb mb pb s L odd lost) (hg : Good s) (hn : s.wait.length ≤ 900) (hc : s.n ≤ 1000000) (i : Int) (t : ByteArray) (ht : t.size ≤ 9223372036854775807) :
    Calls Tryz.prog 109 #[.pointer (some ⟨pb, 0, none⟩), .int .i64 i, .string t] w1 fun e w2 => e = .returned (.int .i64 (writeE s i t)) ∧ Sg F w0 w2 sb mb pb (writeS s i t) L odd lost := by
  obtain ⟨F1, h1, h2⟩ := h.go
  obtain ⟨Fp, hP, hk⟩ := h1.pl
  exact (write_any pb s Fp i t w1 hP hg hn hc ht).mono fun e w' ⟨he, hg'⟩ => ⟨he, h2 _ _ _ _ _ (hk _ _ hg')⟩
theorem sg_sync (h : Sg F w0 w1 sb mb pb s L odd lost) (hg : Good s) (hn : s.wait.length ≤ 1000) (hc : s.n ≤ 1000000) :
    Calls Tryz.prog 110 #[.pointer (some ⟨pb, 0, none⟩)] w1 fun e w2 => e = .returned (.int .i64 (syncE s)) ∧ Sg F w0 w2 sb mb pb (syncS s) L odd lost := by
  obtain ⟨F1, h1, h2⟩ := h.go
  obtain ⟨Fp, hP, hk⟩ := h1.pl
  exact (sync_any pb s Fp w1 hP hg hn hc).mono fun e w' ⟨he, hg'⟩ => ⟨he, h2 _ _ _ _ _ (hk _ _ hg')⟩
/-- The map alone turns. -/
theorem Sg.turned (h : Sg F w0 w1 sb mb pb s L odd lost) {w2 : World} {L2 : Lay} (ht : w1.mapTurned w2 mb) (h2 : Tm w2 mb L2) : Sg F w0 w2 sb mb pb s L2 odd lost := by
  obtain ⟨F1, h1, k⟩ := h.go
  obtain ⟨vb, hS, hk⟩ := h1.own
  have hg := ht.grown
  have hB : ∀ k, k < w1.heap.size → k ≠ mb → w2.heap[k]? = w1.heap[k]? := fun k hk hn => hg.block k hk (fun e => hn (Option.some.inj e))
  refine k _ _ _ _ _ (hk w2 vb L2 odd lost ⟨hS.row.of_block (hB _ hS.row.lt (Ne.symm hS.ne)), h2, owns_kept hS.bad fun g hg' => hB g (owns_lt hS.bad hg') (fun e => hS.ne_bad_map (by rw [hg', e]))⟩ ⟨hg.os, hg.tape, hg.output, hg.size, fun k hk hn => hB k hk (fun e => hn (.inr (.inl e)))⟩ (fun k hk => .inl hk))
end
/-- The five ways of it. -/
theorem wr_a {s : St} {i : Nat} {b : Bk} (h1 : writeE s i (recB b 0) ≠ 0) : wrE s i b = writeE s i (recB b 0) ∧ wrS s i b = writeS s i (recB b 0) := by
  have : wr1E s i (recB b 0) = writeE s i (recB b 0) := if_pos h1
  unfold wrE wrS
  rw [this, if_pos h1, if_pos h1]
  exact ⟨rfl, if_pos h1⟩
theorem wr_b {s : St} {i : Nat} {b : Bk} (h1 : writeE s i (recB b 0) = 0) (h2 : syncE (writeS s i (recB b 0)) ≠ 0) : wrE s i b = syncE (writeS s i (recB b 0)) ∧ wrS s i b = syncS (writeS s i (recB b 0)) := by
  have e1 : wr1E s i (recB b 0) = syncE (writeS s i (recB b 0)) := if_neg (by omega)
  have e2 : wr1S s i (recB b 0) = syncS (writeS s i (recB b 0)) := if_neg (by omega)
  unfold wrE wrS
  rw [e1, if_pos h2, if_pos h2, e2]
  exact ⟨rfl, rfl⟩
theorem wr_c {s : St} {i : Nat} {b : Bk} (h1 : writeE s i (recB b 0) = 0) (h2 : syncE (writeS s i (recB b 0)) = 0) : wrE s i b = wr1E (syncS (writeS s i (recB b 0))) i (recB b 1) ∧ wrS s i b = wr1S (syncS (writeS s i (recB b 0))) i (recB b 1) := by
  have e1 : wr1E s i (recB b 0) = syncE (writeS s i (recB b 0)) := if_neg (by omega)
  have e2 : wr1S s i (recB b 0) = syncS (writeS s i (recB b 0)) := if_neg (by omega)
  unfold wrE wrS
  rw [e1, if_neg (by omega), if_neg (by omega), e2]
  exact ⟨rfl, rfl⟩
theorem wr1_no {s : St} {i : Nat} {t : ByteArray} (h : writeE s i t ≠ 0) : wr1E s i t = writeE s i t ∧ wr1S s i t = writeS s i t := ⟨if_pos h, if_pos h⟩
theorem wr1_yes {s : St} {i : Nat} {t : ByteArray} (h : writeE s i t = 0) : wr1E s i t = syncE (writeS s i t) ∧ wr1S s i t = syncS (writeS s i t) := ⟨if_neg (by omega), if_neg (by omega)⟩
/-- What lies there behind it. -/
def wrY (L : Lay) (s : St) (i : Nat) (b : Bk) : Lay := if wrE s i b = 0 then putL L i b else L

set_option maxRecDepth 100000 in
set_option maxHeartbeats 4000000 in
theorem swrite_any {F : Nat → Prop} {w : World} {sb mb pb : Nat} {s : St} {L : Lay} {odd : List Nat} {lost : Bool} {n k : Nat} (h : SF w sb mb pb s L odd lost F) (hT : Tab w) (hF : ¬ F 1) (hR : Rest s n k) (hk : k ≤ 900000) {b : Bk} (hb : refE b 1 = 0) {i : Nat} (hi : Fre L i) :
    Calls Tryz.prog 104 #[.pointer (some ⟨sb, 0, none⟩), b.val, .int .i64 (i : Int)] w fun e w' => e = .returned (.int .i64 (wrE s i b)) ∧ Sg F w w' sb mb pb (wrS s i b) (wrY L s i b) odd lost := by
  have hb0 : Below w.heap.size w (w.alloc (.cells b.cells 34)) := (Below.refl _ _).alloc (Nat.le_refl _) _
  have hz := (refE_zero.1 hb).2
  have h0 := refE_mark hb
  have HF := Lib.hid hF
  have HFz := Lib.hid (fun (e : F w.heap.size) => Nat.lt_irrefl _ (h.lt _ e))
  have HB := Lib.hid hb0
  have A0 := Lib.hid (AB.fresh w b)
  have T0 := Lib.hid (hT.below hb0)
  have S0 := Lib.hid (Sg.start (h.below hb0))
  have g0 := hR.good
  have hw0 := hR.wait
  have hn0 := hR.few
  have hrs0 := recB_size hz 0
  have hrs1 := recB_size hz 1
  have r0 := recV_yes h0
  have r1 := recV_yes hb
  obtain ⟨q0, hq0⟩ : ∃ x, recB b 0 = x := ⟨_, rfl⟩
  obtain ⟨q1, hq1⟩ : ∃ x, recB b 1 = x := ⟨_, rfl⟩
  have RA := Lib.hid (fun w (T : Tab w) => h0 ▸ r0 ▸ record_any b 0 w T (by omega))
  have RB := Lib.hid (fun w (T : Tab w) => hb ▸ r1 ▸ record_any b 1 w T (by omega))
  have Wa := @wr_a s i b
  have Wb := @wr_b s i b
  have Wc := @wr_c s i b
  have HYY := Lib.hid (show wrE s i b ≠ 0 → wrY L s i b = L from fun e => if_neg e)
  have HYP := Lib.hid (show wrE s i b = 0 → wrY L s i b = putL L i b from fun e => if_pos e)
  rw [hq0] at RA Wa Wb Wc hrs0
  rw [hq1] at RB Wc hrs1
  have HI := Lib.hid hi
  have HBk := Lib.hid hb
  have hwl : s.wait.length = 0 := by rw [hw0]; rfl
  clear hT hb0 hF h r0 r1 hq0 hq1 hi hw0 hb h0 hR
  -- the four calls
  have g1 := g0.write i q0
  have n1 := write_n s i q0
  have l1 := write_wait s i q0
  generalize hs1 : writeS s i q0 = s1 at g1 n1 l1 Wa Wb Wc
  generalize he1 : writeE s i q0 = e1 at Wa Wb Wc
  have g2 := g1.sync
  have n2 := sync_n s1
  have l2 := sync_wait s1
  generalize hs2 : syncS s1 = s2 at g2 n2 l2 Wb Wc
  generalize he2 : syncE s1 = e2 at Wb Wc
  have W1 := @wr1_no s2 i q1
  have W2 := @wr1_yes s2 i q1
  have g3 := g2.write i q1
  have n3 := write_n s2 i q1
  have l3 := write_wait s2 i q1
  generalize hs3 : writeS s2 i q1 = s3 at g3 n3 l3 W1 W2
  generalize he3 : writeE s2 i q1 = e3 at W1 W2
  generalize hs4 : syncS s3 = s4 at W2
  generalize he4 : syncE s3 = e4 at W2
  have P1 := Lib.hid (fun w1 (S : Sg F (w.alloc (.cells b.cells 34)) w1 sb mb pb s L odd lost) => hs1 ▸ he1 ▸ sg_write S g0 (by omega) (by omega) i q0 (by omega))
  have P2 := Lib.hid (fun w1 (S : Sg F (w.alloc (.cells b.cells 34)) w1 sb mb pb s1 L odd lost) => hs2 ▸ he2 ▸ sg_sync S g1 (by omega) (by omega))
  have P3 := Lib.hid (fun w1 (S : Sg F (w.alloc (.cells b.cells 34)) w1 sb mb pb s2 L odd lost) => hs3 ▸ he3 ▸ sg_write S g2 (by omega) (by omega) i q1 (by omega))
  have P4 := Lib.hid (fun w1 (S : Sg F (w.alloc (.cells b.cells 34)) w1 sb mb pb s3 L odd lost) => hs4 ▸ he4 ▸ sg_sync S g3 (by omega) (by omega))
  clear hs1 he1 hs2 he2 hs3 he3 hs4 he4 g0 g1 g2 g3 n1 n2 n3 l1 l2 l3 hwl hn0
  obtain ⟨wE, hwE⟩ : ∃ x, wrE s i b = x := ⟨_, rfl⟩
  obtain ⟨wS, hwS⟩ : ∃ x, wrS s i b = x := ⟨_, rfl⟩
  obtain ⟨wY, hwY⟩ : ∃ x, wrY L s i b = x := ⟨_, rfl⟩
  rw [hwE, hwS] at Wa Wb Wc
  rw [hwE, hwY] at HYY HYP
  rw [hwE, hwS, hwY]
  have WA := Lib.hid Wa
  have WB := Lib.hid Wb
  have WC := Lib.hid Wc
  have WD := Lib.hid W1
  have WE := Lib.hid W2
  clear hwE hwS hwY Wa Wb Wc W1 W2
  go_enter Tryz.func104, Tryz.ntmps104
  go_wp2_with fail
  generalize hW0 : w.alloc (.cells #[.int .i64 b.id, .int .i64 b.ver, .string b.data] 34) = w0 at HB A0 T0 S0 P1 P2 P3 P4 ⊢
  refine wp_loop_rounds 3 ?_
  rw [rounds_succ]
  obtain ⟨d0, d1, d2⟩ := A0.out.all
  go_wp2_with fail
  go_at_call 125
  refine (RA.out _ T0.out).mono ?_
  rintro e w1 ⟨rfl, k2⟩
  have S1 := Lib.hid (S0.out.below k2)
  have A1 := Lib.hid (A0.out.below k2)
  have T1 := Lib.hid (T0.out.below k2)
  clear k2 d0 d1 d2
  obtain ⟨c0, -, -⟩ := S1.out.cells
  go_wp2_with fail
  go_at_call 109
  refine (P1.out _ S1.out).mono ?_
  rintro e w2 ⟨rfl, k2⟩
  have S2 := Lib.hid k2
  clear k2 c0
  by_cases h1 : e1 = 0
  · obtain ⟨c0, -, -⟩ := S2.out.cells
    have WB1 := Lib.hid (WB.out h1)
    have WC1 := Lib.hid (WC.out h1)
    subst h1
    go_wp2_with fail
    go_at_call 110
    refine (P2.out _ S2.out).mono ?_
    rintro e w3 ⟨rfl, k2⟩
    have S3 := Lib.hid k2
    clear k2 c0
    by_cases h2 : e2 = 0
    · have WC2 := Lib.hid (WC1.out h2)
      subst h2
      have A3 := Lib.hid (S3.out.ab A0.out HFz.out)
      have T3 := Lib.hid (S3.out.tab T0.out HF.out)
      obtain ⟨d0, d1, d2⟩ := A3.out.all
      go_wp2_with fail
      rw [rounds_succ]
      obtain ⟨c0, -, -⟩ := S3.out.cells
      go_wp2_with fail
      go_at_call 125
      refine (RB.out _ T3.out).mono ?_
      rintro e w4 ⟨rfl, k2⟩
      have S4 := Lib.hid (S3.out.below k2)
      have A4 := Lib.hid (A3.out.below k2)
      clear k2 d0 d1 d2 c0
      obtain ⟨c0, -, -⟩ := S4.out.cells
      go_wp2_with fail
      go_at_call 109
      refine (P3.out _ S4.out).mono ?_
      rintro e w5 ⟨rfl, k2⟩
      have S5 := Lib.hid k2
      clear k2 c0
      by_cases h3 : e3 = 0
      · obtain ⟨c0, -, -⟩ := S5.out.cells
        have WE1 := Lib.hid (WE.out h3)
        subst h3
        go_wp2_with fail
        go_at_call 110
        refine (P4.out _ S5.out).mono ?_
        rintro e w6 ⟨rfl, k2⟩
        have S6 := Lib.hid k2
        clear k2 c0
        obtain ⟨z1, z2⟩ := WE1.out
        obtain ⟨z3, z4⟩ := WC2.out
        rw [z1] at z3
        rw [z2] at z4
        subst z3
        subst z4
        by_cases h4 : wE = 0
        · obtain rfl := HYP.out h4
          subst h4
          have A6 := Lib.hid (S6.out.ab A0.out HFz.out)
          obtain ⟨d0, d1, d2⟩ := A6.out.all
          obtain ⟨-, c1, -⟩ := S6.out.cells
          have hbd : Below w6.heap.size w6 w6.drew := (Below.refl _ _).drew
          have S7 := Lib.hid (S6.out.below hbd)
          obtain ⟨w7, hrun, k1, k2⟩ := S7.out.tm.put HBk.out HI.out
          have S8 := Lib.hid (S7.out.turned k2 k1)
          clear k1 k2 hbd
          go_wp2_with fail
          rw [rounds_succ]
          go_wp2_with fail
          go_region
          all_goals
            go_wp2
            go_ret
            exact ⟨rfl, Sg.ahead HB.out S8.out⟩
        · obtain rfl : wY = L := HYY.out h4
          have hbad2 : (wE == 0) = false := by simpa using h4
          go_wp2
          go_ret
          exact ⟨rfl, Sg.ahead HB.out S6.out⟩
      · obtain ⟨z1, z2⟩ := WD.out h3
        obtain ⟨z3, z4⟩ := WC2.out
        rw [z1] at z3
        rw [z2] at z4
        subst z3
        subst z4
        obtain rfl : wY = L := HYY.out h3
        have hbad2 : (wE == 0) = false := by simpa using h3
        go_wp2
        go_ret
        exact ⟨rfl, Sg.ahead HB.out S5.out⟩
    · obtain ⟨rfl, rfl⟩ := WB1.out h2
      obtain rfl : wY = L := HYY.out h2
      have hbad2 : (wE == 0) = false := by simpa using h2
      go_wp2
      go_ret
      exact ⟨rfl, Sg.ahead HB.out S3.out⟩
  · obtain ⟨rfl, rfl⟩ := WA.out h1
    obtain rfl : wY = L := HYY.out h1
    have hbad2 : (wE == 0) = false := by simpa using h1
    go_wp2
    go_ret
    exact ⟨rfl, Sg.ahead HB.out S2.out⟩
end Go.Proofs.YtmmpknfkncgjpaaGreatDoor

namespace Go.Proofs.YtmmpknfkncgjpaaGreatDoor
open Go.RowKit

/-- The numbers of what is in the way. -/
def refL (L : Lay) (gone : Bool) (b : Bk) : List Int :=
  wrongL b 1 ++ (if gone then [70] else []) ++ (if newer L b then [] else [5]) ++ (if cnt L < L.length then [] else [2])
theorem wrongL_no70 (b : Bk) (m : Int) : (70 : Int) ∉ wrongL b m ∧ (5 : Int) ∉ wrongL b m ∧ (2 : Int) ∉ wrongL b m := by
  unfold wrongL
  refine ⟨?_, ?_, ?_⟩ <;> (intro h; simp only [List.mem_append] at h; rcases h with ((h | h) | h) | h <;> split at h <;> simp at h)
theorem wrong_mem (b : Bk) (m : Int) : ((1 : Int) ∈ wrongL b m ↔ refE b m = 1) ∧ ((1 : Int) ∉ wrongL b m → ((11 : Int) ∈ wrongL b m ↔ refE b m = 11)) := by
  have h := find_wrong b m
  unfold findE at h
  rw [List.find?_cons] at h
  by_cases h1 : (1 : Int) ∈ wrongL b m
  · rw [decide_eq_true h1] at h
    simp only [Option.getD_some] at h
    exact ⟨⟨fun _ => h.symm, fun _ => h1⟩, fun h2 => absurd h1 h2⟩
  · rw [decide_eq_false h1] at h
    rw [List.find?_cons] at h
    by_cases h2 : (11 : Int) ∈ wrongL b m
    · rw [decide_eq_true h2] at h
      simp only [Option.getD_some] at h
      exact ⟨⟨fun h3 => absurd h3 h1, fun h3 => by omega⟩, fun _ => ⟨fun _ => h.symm, fun _ => h2⟩⟩
    · rw [decide_eq_false h2] at h
      simp at h
      exact ⟨⟨fun h3 => absurd h3 h1, fun h3 => by omega⟩, fun _ => ⟨fun h3 => absurd h3 h2, fun h3 => by omega⟩⟩
theorem refE_in (b : Bk) (m : Int) : refE b m = 0 ∨ refE b m = 1 ∨ refE b m = 11 := by
  unfold refE; split
  · split
    · exact .inr (.inr rfl)
    · exact .inl rfl
  · exact .inr (.inl rfl)
theorem find_ref (L : Lay) (gone : Bool) (b : Bk) : findE [1, 11, 70, 5, 2] (refL L gone b) = preE L gone b := by
  obtain ⟨n1, n2, n3⟩ := wrongL_no70 b 1
  obtain ⟨m1, m2⟩ := wrong_mem b 1
  have hl := low_le L
  have hc := cnt_le L
  have hf := @cnt_full L
  unfold preE
  rcases refE_in b 1 with hr | hr | hr
  · have k1 : (1 : Int) ∉ wrongL b 1 := fun h => by have := m1.1 h; omega
    have k2 : (11 : Int) ∉ wrongL b 1 := fun h => by have := (m2 k1).1 h; omega
    rw [hr, if_neg (by simp)]
    unfold findE refL
    cases gone <;> cases hn : newer L b <;> by_cases h2 : cnt L < L.length
    all_goals
      simp [k1, k2, n1, n2, n3, h2]
      try omega
    all_goals
      first
        | (rw [if_neg]; intro h; omega)
        | (rw [if_pos]; omega)
  · have k1 := m1.2 hr
    rw [hr, if_pos (by simp)]
    unfold findE refL
    simp [k1]
  · have k1 : (1 : Int) ∉ wrongL b 1 := fun h => by have := m1.1 h; omega
    have k2 := (m2 k1).2 hr
    rw [hr, if_pos (by simp)]
    unfold findE refL
    cases gone <;> cases hn : newer L b <;> by_cases h2 : cnt L < L.length
    all_goals
      simp [k1, k2, h2]
theorem es_cells {w : World} {d : Nat} {v : Value} {es : List Int} (h : ES w d v es) : okE v := by
  rcases h.form with ⟨rfl, _⟩ | ⟨x, rfl⟩ | ⟨b, rfl⟩ <;> rfl
attribute [local go_sem ↓] Go.wp_at_zero Go.wp_at_succ wp_build4

set_option maxRecDepth 100000 in
set_option maxHeartbeats 4000000 in
theorem refuse_any {F : Nat → Prop} {w : World} {sb mb pb : Nat} {s : St} {L : Lay} {odd : List Nat} {lost : Bool} (h : SF w sb mb pb s L odd lost F) (hlost : lost = true → s.gone = true) (hL : s.is.length = L.length) {b : Bk} (hid : i64 b.id) :
    Calls Tryz.prog 103 #[.pointer (some ⟨sb, 0, none⟩), b.val] w fun e w' => ∃ v, e = .returned v ∧ ES w' 2 v (refL L s.gone b) ∧ Below w.heap.size w w' := by
  have hb0 : Below w.heap.size w (w.alloc (.cells b.cells 34)).drew := ((Below.refl _ _).alloc (Nat.le_refl _) _).drew
  have H0 := Lib.hid (h.below hb0)
  have X0 := Lib.hid (show BC (w.alloc (.cells b.cells 34)).drew w.heap.size b from BC.new w b _)
  have B0 := Lib.hid hb0
  have hhi := h.good.hi
  have hcl := cnt_le L
  obtain ⟨p1, hp1⟩ : ∃ p, (!s.gone) = p := ⟨_, rfl⟩
  obtain ⟨p2, hp2⟩ : ∃ p, newer L b = p := ⟨_, rfl⟩
  obtain ⟨p3, hp3⟩ : ∃ p, decide (0 < (s.is.length : Int) - (cnt L : Int)) = p := ⟨_, rfl⟩
  have hLL : refL L s.gone b = wrongL b 1 ++ (if p1 then [] else [70]) ++ (if p2 then [] else [5]) ++ (if p3 then [] else [2]) := by
    unfold refL
    rw [← hp1, ← hp2, ← hp3, hL]
    by_cases hc : cnt L < L.length
    · rw [if_pos hc, decide_eq_true (by omega : 0 < (L.length : Int) - (cnt L : Int))]
      cases s.gone <;> simp
    · rw [if_neg hc, decide_eq_false (by omega : ¬ 0 < (L.length : Int) - (cnt L : Int))]
      cases s.gone <;> simp
  have HL := Lib.hid hLL
  have KW := Lib.hid (fun w => wrong_any b 1 w)
  have KD := Lib.hid (fun w (h : SF w sb mb pb s L odd lost F) => sdead_any h hlost)
  have KN := Lib.hid (fun w (h : SF w sb mb pb s L odd lost F) => hp2 ▸ isNew_any h b hid)
  have KF := Lib.hid (fun w (h : SF w sb mb pb s L odd lost F) => free_any h (by omega))
  obtain ⟨v1, hv1⟩ : ∃ v, unl p1 70 = v := ⟨_, rfl⟩
  obtain ⟨v2, hv2⟩ : ∃ v, unl p2 5 = v := ⟨_, rfl⟩
  obtain ⟨v3, hv3⟩ : ∃ v, unl p3 2 = v := ⟨_, rfl⟩
  have U1 := Lib.hid (fun w => hv1 ▸ unless_any p1 70 w)
  have U2 := Lib.hid (fun w => hv2 ▸ unless_any p2 5 w)
  have U3 := Lib.hid (fun w => hv3 ▸ unless_any p3 2 w)
  have E1 := Lib.hid (hv1 ▸ unl_es p1 70)
  have E2 := Lib.hid (hv2 ▸ unl_es p2 5)
  have E3 := Lib.hid (hv3 ▸ unl_es p3 2)
  have C1 : okE v1 := hv1 ▸ unl_cells p1 70
  have C2 : okE v2 := hv2 ▸ unl_cells p2 5
  have C3 : okE v3 := hv3 ▸ unl_cells p3 2
  generalize hfr : (s.is.length : Int) - (cnt L : Int) = fr at hp3 KF
  generalize hgn : s.gone = gn at hp1 KD HL
  clear hp2 hv1 hv2 hv3 hLL hb0 h hlost hL hhi hcl hfr hgn
  go_enter Tryz.func103, Tryz.ntmps103
  go_wp2_with fail
  go_region_held3 (fun w' => w'.cell? ⟨w.heap.size, 0, none⟩ = some (.int .i64 b.id) ∧ w'.cell? ⟨w.heap.size, 1, none⟩ = some (.int .i64 b.ver) ∧ w'.cell? ⟨w.heap.size, 2, none⟩ = some (.string b.data))
    (first | exact X0.out | exact X1.out | exact X2.out | exact X3.out | exact X4.out | exact X5.out | fail)
    (first
      | (go_at_call 130; with_reducible refine (KW.out _).mono ?_; rintro e w1 ⟨v0, rfl, k1, k2⟩; have V1 := Lib.hid k1; have C0 := es_cells k1; have X1 := Lib.hid (X0.out.below k2); have H1 := Lib.hid (H0.out.below k2); have B1 := Lib.hid (B0.out.trans (k2.mono B0.out.size)); clear k1 k2)
      | (go_at_call 108; with_reducible refine (KD.out _ H1.out).mono ?_; rintro e w' ⟨rfl, rfl⟩)
      | (go_at_call 131; with_reducible refine (U1.out _).mono ?_; rintro e w' ⟨rfl, rfl⟩)
      | (go_at_call 95; with_reducible refine (KN.out _ H1.out).mono ?_; rintro e w2 ⟨rfl, k2⟩; have V2 := Lib.hid (V1.out.below k2); have X2 := Lib.hid (X1.out.below k2); have H2 := Lib.hid (H1.out.below k2); have B2 := Lib.hid (B1.out.trans (k2.mono B1.out.size)); clear k2)
      | (go_at_call 131; with_reducible refine (U2.out _).mono ?_; rintro e w' ⟨rfl, rfl⟩)
      | (go_at_call 132; with_reducible refine (KF.out _ H2.out).mono ?_; rintro e w3 ⟨rfl, k2⟩; have V3 := Lib.hid (V2.out.below k2); have X3 := Lib.hid (X2.out.below k2); have B3 := Lib.hid (B2.out.trans (k2.mono B2.out.size)); (have hA := four_args V3.out (ES.up E1.out 1) (ES.up E2.out 1) (ES.up E3.out 1)); have HJ := Lib.hid (join_es 1 _ 4 _ 4 _ hA rfl); have X4 := Lib.hid (X3.out.below (((Below.refl _ _).alloc (Nat.le_refl _) (.cells #[v0, v1, v2, v3] 93)))); have B4 := Lib.hid (B3.out.alloc B3.out.size (.cells #[v0, v1, v2, v3] 93)); clear k2 hA)
      | (go_at_call 131; with_reducible refine (U3.out _).mono ?_; rintro e w' ⟨rfl, rfl⟩)
      | (go_at_call 129; with_reducible refine HJ.out.mono ?_; rintro e wj ⟨v, rfl, k1, k2⟩; have X5 := Lib.hid (X4.out.below k2); have EJ := Lib.hid k1; have BJ := Lib.hid (B4.out.trans (k2.mono B4.out.size)); clear k1 k2)
      | fail)
  go_wp2
  go_ret
  refine ⟨_, rfl, ?_, BJ.out⟩
  rw [HL.out]
  simpa [List.flatMap_cons] using EJ.out
end Go.Proofs.YtmmpknfkncgjpaaGreatDoor

namespace Go.Proofs.YtmmpknfkncgjpaaGreatDoor
open Go.RowKit

/-- Does a Put that answers e tell of a loss of power? -/
def lostP (lost : Bool) (e : Int) : Bool := lost || decide (e = 70)
theorem Sg.setLost {F : Nat → Prop} {w0 w1 : World} {sb mb pb : Nat} {s : St} {L : Lay} {odd : List Nat} {lost : Bool} (h : Sg F w0 w1 sb mb pb s L odd lost) :
    Sg F w0 (w1.setCell ⟨sb, 3, none⟩ (.bool true)) sb mb pb s L odd true ∧ w1.frozen? ⟨sb, 3, none⟩ = false := by
  obtain ⟨F1, h1, k⟩ := h.go
  obtain ⟨vb, hS, hk⟩ := h1.own
  have hB : ∀ k, k ≠ sb → (w1.setCell ⟨sb, 3, none⟩ (.bool true)).heap[k]? = w1.heap[k]? := fun k hk => Below.heap_setCell _ _ _ _ hk
  refine ⟨k _ _ _ _ _ (hk _ vb L odd true ⟨(hS.row.set 3 (.bool true)).congr fun o ho => ?_, hS.tm.of_block (hB _ hS.ne), owns_kept hS.bad fun g hg => hB g (fun e => hS.ne_bad (by rw [hg, e]))⟩ ((Keeps.refl _ w1).set (b := sb) (o := 3) (.inl (.inl rfl)) (.bool true)) (fun k hk => .inl hk)), hS.row.frozen 3⟩
  unfold sf
  by_cases e : o = 3
  · subst e; simp
  · rw [if_neg e]
    have : o = 0 ∨ o = 1 ∨ o = 2 := by omega
    rcases this with rfl | rfl | rfl <;> simp

/-- What Put leaves. -/
theorem putS_pre {L : Lay} {s : St} {b : Bk} (h : preE L s.gone b ≠ 0) : putE L s b = preE L s.gone b ∧ putS L s b = s ∧ putY L s b = L := by
  have h1 : putE L s b = preE L s.gone b := if_pos h
  exact ⟨h1, if_pos h, if_pos (by rw [h1]; exact h)⟩
theorem putS_wr {L : Lay} {s : St} {b : Bk} (h : preE L s.gone b = 0) : putE L s b = wrE s (low L) b ∧ putS L s b = wrS s (low L) b ∧ putY L s b = wrY L s (low L) b := by
  have h1 : putE L s b = wrE s (low L) b := if_neg (by omega)
  refine ⟨h1, if_neg (by omega), ?_⟩
  unfold putY wrY
  rw [h1]
  by_cases e : wrE s (low L) b = 0
  · rw [if_neg (by omega), if_pos e]
  · rw [if_pos e, if_neg e]
set_option maxRecDepth 100000 in
set_option maxHeartbeats 4000000 in
theorem sput_any {F : Nat → Prop} {w : World} {sb mb pb : Nat} {s : St} {L : Lay} {odd : List Nat} {lost : Bool} {n k : Nat} (h : SF w sb mb pb s L odd lost F) (hT : Tab w) (hF : ¬ F 1) (hR : Rest s n k) (hk : k ≤ 900000) (hlost : lost = true → s.gone = true) (hL : L.length = n) {b : Bk} (hid : i64 b.id) :
    Calls Tryz.prog 72 #[.pointer (some ⟨sb, 0, none⟩), b.val] w fun e w' => e = .returned (.int .i64 (putE L s b)) ∧ Sg F w w' sb mb pb (putS L s b) (putY L s b) odd (lostP lost (putE L s b)) := by
  have hb0 : Below w.heap.size w (w.alloc (.cells b.cells 34)) := (Below.refl _ _).alloc (Nat.le_refl _) _
  have HF := Lib.hid hF
  have HFz := Lib.hid (fun (e : F w.heap.size) => Nat.lt_irrefl _ (h.lt _ e))
  have HB := Lib.hid hb0
  have A0 := Lib.hid (AB.fresh w b)
  have T0 := Lib.hid (hT.below hb0)
  have S0 := Lib.hid (h.below hb0)
  have hLs : s.is.length = L.length := by rw [hR.len, hL]
  have HRf := Lib.hid (fun w (h : SF w sb mb pb s L odd lost F) => refuse_any h hlost hLs hid)
  have HWr := Lib.hid (fun w (h : SF w sb mb pb s L odd lost F) (T : Tab w) (hb : refE b 1 = 0) (hi : Fre L (low L)) => swrite_any h T hF hR hk hb hi)
  have HLo := Lib.hid (fun w (h : SF w sb mb pb s L odd lost F) (hl : low L < L.length) => lowest_any h hl)
  have hfd := find_ref L s.gone b
  have hpre := @putS_pre L s b
  have hwr := @putS_wr L s b
  obtain ⟨pe, hpe⟩ : ∃ pe, preE L s.gone b = pe := ⟨_, rfl⟩
  have hz := fun h0 => preE_zero (L := L) (g := s.gone) (b := b) (hpe.trans h0)
  rw [hpe] at hfd hpre hwr
  have HFd := Lib.hid hfd
  have HPre := Lib.hid hpre
  have HW := Lib.hid hwr
  have HZ := Lib.hid hz
  obtain ⟨qE, hqE⟩ : ∃ x, putE L s b = x := ⟨_, rfl⟩
  obtain ⟨qS, hqS⟩ : ∃ x, putS L s b = x := ⟨_, rfl⟩
  obtain ⟨qY, hqY⟩ : ∃ x, putY L s b = x := ⟨_, rfl⟩
  rw [hqE, hqS, hqY] at HPre HW
  rw [hqE, hqS, hqY]
  clear hb0 hT hF h hLs hfd hpre hwr hpe hz hqE hqS hqY hR hlost hL
  obtain ⟨d0, d1, d2⟩ := A0.out.all
  go_enter Tryz.func72, Tryz.ntmps72
  go_wp2_with fail
  go_at_call 103
  refine (HRf.out _ S0.out).mono ?_
  rintro e w1 ⟨v, rfl, k1, k2⟩
  have V1 := Lib.hid k1
  have S1 := Lib.hid (S0.out.below k2)
  have A1 := Lib.hid (A0.out.below k2)
  have T1 := Lib.hid (T0.out.below k2)
  have B1 := Lib.hid (HB.out.trans (k2.mono HB.out.size))
  clear k1 k2 d0 d1 d2
  go_wp2_with fail
  have hb2 : Below w1.heap.size w1 (w1.alloc (.cells #[.int .i64 1, .int .i64 11, .int .i64 70, .int .i64 5, .int .i64 2] 57)) := (Below.refl _ _).alloc (Nat.le_refl _) _
  have HFi := Lib.hid (find_any 2 w1.heap.size 5 5 v (refL L s.gone b) [1, 11, 70, 5, 2] _ (V1.out.below hb2) rfl (by omega) (fun j x hx => by
    rcases j with _ | _ | _ | _ | _ | j
    · simp at hx; subst hx; simp
    · simp at hx; subst hx; simp
    · simp at hx; subst hx; simp
    · simp at hx; subst hx; simp
    · simp at hx; subst hx; simp
    · simp at hx))
  have S2 := Lib.hid (S1.out.below hb2)
  have A2 := Lib.hid (A1.out.below hb2)
  have T2 := Lib.hid (T1.out.below hb2)
  have B2 := Lib.hid (B1.out.trans (hb2.mono B1.out.size))
  rw [HFd.out] at HFi
  clear hb2
  generalize w1.alloc (.cells #[.int .i64 1, .int .i64 11, .int .i64 70, .int .i64 5, .int .i64 2] 57) = w2 at HFi S2 A2 T2 B2 ⊢
  go_at_call 102
  refine HFi.out.mono ?_
  rintro e w' ⟨rfl, rfl⟩
  by_cases h0 : pe = 0
  · obtain ⟨r1, r2, r3, r4⟩ := HZ.out h0
    obtain ⟨e1, e2, e3⟩ := HW.out h0
    subst h0
    have HL2 := Lib.hid (HLo.out (w2.drew) (S2.out.below ((Below.refl _ _).drew)) r4)
    have HR1 := Lib.hid r1
    have HR4 := Lib.hid (low_free r4)
    have hbd : Below w2.heap.size w2 w2.drew := (Below.refl _ _).drew
    have S3 := Lib.hid (S2.out.below hbd)
    have A3 := Lib.hid (A2.out.below hbd)
    have T3 := Lib.hid (T2.out.below hbd)
    have B3 := Lib.hid (B2.out.trans (hbd.mono B2.out.size))
    have hBc : BC w2.drew w.heap.size b := A3.out.all
    have X3 := Lib.hid hBc
    clear r1 r2 r3 r4 hbd hBc
    obtain ⟨d0, d1, d2⟩ := A2.out.all
    have E1 := Lib.hid e1
    have E2 := Lib.hid e2
    have E3 := Lib.hid e3
    clear e1 e2 e3
    go_wp2_with fail
    clear d0 d1 d2
    go_region_held3 (fun w' => w'.cell? ⟨w.heap.size, 0, none⟩ = some (.int .i64 b.id) ∧ w'.cell? ⟨w.heap.size, 1, none⟩ = some (.int .i64 b.ver) ∧ w'.cell? ⟨w.heap.size, 2, none⟩ = some (.string b.data))
      (first | exact X3.out | exact X4.out | exact X5.out.all | fail)
      (first
        | (go_at_call 105; with_reducible refine HL2.out.mono ?_; rintro e w4 ⟨rfl, k2⟩; have S4 := Lib.hid (S3.out.below k2); have A4 := Lib.hid (A3.out.below k2); have X4 := Lib.hid (X3.out.below k2); have T4 := Lib.hid (T3.out.below k2); have B4 := Lib.hid (B3.out.trans (k2.mono B3.out.size)); clear k2)
        | (go_at_call 104; with_reducible refine (HWr.out _ S4.out T4.out HR1.out HR4.out).mono ?_; rintro e w5 ⟨rfl, k2⟩; have S5 := Lib.hid (Sg.ahead B4.out k2); have X5 := Lib.hid (k2.ab A4.out HFz.out); clear k2)
        | fail)
    rw [← E2.out, ← E3.out] at S5
    rw [← E1.out]
    obtain ⟨c0, c1, c3⟩ := S5.out.cells
    by_cases h7 : qE = 70
    · subst h7
      obtain ⟨S6', f3⟩ := S5.out.setLost
      have S6 := Lib.hid S6'
      have hlp := Lib.hid (show lostP lost 70 = true from by unfold lostP; simp)
      clear S6'
      go_wp2
      go_ret
      exact ⟨rfl, by rw [hlp.out]; exact S6.out⟩
    · have hz7 : (qE == 70) = false := by simpa using h7
      have hlp := Lib.hid (show lostP lost qE = lost from by unfold lostP; rw [decide_eq_false h7, Bool.or_false])
      go_wp2
      go_ret
      exact ⟨rfl, by rw [hlp.out]; exact S5.out⟩
  · obtain ⟨e1, e2, e3⟩ := HPre.out h0
    subst e1
    subst e2
    subst e3
    have hz0 : (qE == 0) = false := by simpa using h0
    have S3 := Lib.hid (Sg.ahead B2.out (Sg.start S2.out))
    obtain ⟨c0, c1, c3⟩ := S3.out.cells
    by_cases h7 : qE = 70
    · subst h7
      obtain ⟨S4', f3⟩ := S3.out.setLost
      have S4 := Lib.hid S4'
      have hlp := Lib.hid (show lostP lost 70 = true from by unfold lostP; simp)
      clear S4'
      go_wp2
      go_ret
      exact ⟨rfl, by rw [hlp.out]; exact S4.out⟩
    · have hz7 : (qE == 70) = false := by simpa using h7
      have hlp := Lib.hid (show lostP lost qE = lost from by unfold lostP; rw [decide_eq_false h7, Bool.or_false])
      go_wp2
      go_ret
      exact ⟨rfl, by rw [hlp.out]; exact S3.out⟩
end Go.Proofs.YtmmpknfkncgjpaaGreatDoor
