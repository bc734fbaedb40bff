/-
  ask (package quorum) in the first round, by a contract.
-/
import Derived.Test.YtkcbmkedhipgeaaGreatDoorPq5
namespace Go.Proofs.YtkcbmkedhipgeaaGreatDoor
open Go.RowKit Go.ChangeMaps

theorem three11 (w : World) (a b c : Obj) : (((w.alloc a).alloc b).alloc c).heap[w.heap.size]? = some a ∧ (((w.alloc a).alloc b).alloc c).heap[w.heap.size + 1]? = some b ∧ (((w.alloc a).alloc b).alloc c).heap[w.heap.size + 1 + 1]? = some c := by
  have e1 : (w.alloc a).heap.size = w.heap.size + 1 := by simp
  have e2 : ((w.alloc a).alloc b).heap.size = w.heap.size + 1 + 1 := by simp
  refine ⟨?_, ?_, ?_⟩
  · rw [heap_alloc_old _ _ (by omega), heap_alloc_old _ _ (by omega)]; exact heap_alloc_new w a
  · rw [heap_alloc_old _ _ (by omega), ← e1]; exact heap_alloc_new _ b
  · rw [← e2]; exact heap_alloc_new _ c
/-- The lowest two bits of what is left. -/
theorem bits_and {X : Nat} (hX : X < 18446744073709551616) (y : Nat) (hy : y < 18446744073709551616) : bits .and .u64 (X : Int) (y : Int) = ((X &&& y : Nat) : Int) := by
  have h1 : (BitVec.ofInt 64 (X : Int) &&& BitVec.ofInt 64 (y : Int)).toNat = X &&& y := by
    rw [BitVec.toNat_and, BitVec.toNat_ofInt, BitVec.toNat_ofInt]
    congr 1 <;> omega
  have h2 : X &&& y ≤ X := Nat.and_le_left
  show IntKind.wrap .u64 (((BitVec.ofInt 64 (X : Int) &&& BitVec.ofInt 64 (y : Int)).toNat : Nat) : Int) = _
  rw [h1]
  have e : ∀ n : Nat, n < 18446744073709551616 → IntKind.wrap .u64 (n : Int) = (n : Int) := fun n hn => by
    show ((n : Int) % 18446744073709551616 : Int) = n
    omega
  exact e _ (by omega)
theorem left_cast (L k : Nat) : (L : Int) / 2 ^ (4 * k) = ((L / 2 ^ (4 * k) : Nat) : Int) := by
  rw [Int.natCast_ediv, Int.natCast_pow]; rfl
theorem bit_one {L : Nat} (hL : L < 18446744073709551616) (k : Nat) : (bits .and .u64 ((L : Int) / 2 ^ (4 * k)) 1 != 0) = L.testBit (4 * k) := by
  have h1 : L / 2 ^ (4 * k) ≤ L := Nat.div_le_self _ _
  rw [left_cast, show (1 : Int) = ((1 : Nat) : Int) from rfl, bits_and (by omega) 1 (by decide), Nat.testBit, Nat.shiftRight_eq_div_pow, Nat.and_comm]
  generalize 1 &&& L / 2 ^ (4 * k) = x
  by_cases h : x = 0
  · subst h; rfl
  · have h2 : (x : Int) ≠ 0 := by omega
    have h3 : ((x : Int) != 0) = true := by simpa using h2
    have h4 : (x != 0) = true := by simpa using h
    rw [h3, h4]
theorem bit_two {L : Nat} (hL : L < 18446744073709551616) (k : Nat) : (bits .and .u64 ((L : Int) / 2 ^ (4 * k)) 2 != 0) = L.testBit (4 * k + 1) := by
  have h1 : L / 2 ^ (4 * k) ≤ L := Nat.div_le_self _ _
  rw [left_cast, show (2 : Int) = ((2 : Nat) : Int) from rfl, bits_and (by omega) 2 (by decide)]
  have h2 : (L / 2 ^ (4 * k)).testBit 1 = L.testBit (4 * k + 1) := by rw [← Nat.shiftRight_eq_div_pow, Nat.testBit_shiftRight]
  rw [← h2]
  generalize L / 2 ^ (4 * k) = X
  have h3 : X &&& 2 = if X.testBit 1 = true then 2 else 0 := by
    apply Nat.eq_of_testBit_eq
    intro i
    rw [Nat.testBit_and]
    have e : (2 : Nat).testBit i = decide (1 = i) := Nat.testBit_two_pow (n := 1) (m := i)
    rw [e]
    by_cases h : 1 = i
    · subst h
      cases hb : X.testBit 1
      · simp
      · simp
        decide
    · rw [decide_eq_false h, Bool.and_false]
      split
      · rw [e, decide_eq_false h]
      · simp
  rw [h3]
  cases X.testBit 1 <;> rfl
/-- New blocks have turned. -/
theorem PT.fresh {n : Nat} {P P' : Pl} {w w1 w2 : World} {p : Nat → Obj → Prop} (h : PT n P P' w w1) (hf : Chg p w1 w2) (hb : ∀ k o, p k o → w.heap.size ≤ k) : PT n P P' w w2 :=
  ⟨h.chg.trans hf (fun k o hk e => by have := lt_of hk; have := hb k o e; omega), h.new, h.fix⟩
theorem Chg.of_grown {w w' : World} {row : Option Nat} (h : w.grownBy w' row) : Chg (fun k _ => row = some k) w w' :=
  ⟨h.os, h.tape, h.output, h.size, fun k o hk => by
    by_cases e : row = some k
    · exact .inl e
    · exact .inr ((h.block k (lt_of hk) (fun e' => e e'.symm)).trans hk)⟩
theorem Tld.mono {e te : TypeId} {w : World} {base base' : Nat} {u : Value} {T : List (List V)} (h : Tld e te w base u T) (hb : base' ≤ base) : Tld e te w base' u T := by
  obtain ⟨sv, h1, h2⟩ := h
  refine ⟨sv, ⟨h1.1, ?_⟩, h2⟩
  rcases h1.2 with hn | ⟨g, cap, cur, rfl, hbs, rest⟩
  · exact .inl hn
  · exact .inr ⟨g, cap, cur, rfl, by omega, rest⟩
/-- Blocks of other types have turned. -/
theorem PG.other {w w' : World} {g : Nat} {S : Gp} {P : Pl} {p : Nat → Obj → Prop} (h : PG w g S P) (hc : Chg p w w') (hp : ∀ k o, w.heap[k]? = some o → p k o → ∃ cs t, o = .cells cs t (0, 0) ∧ t ∉ [57, 58, 62, 103, 75, 9]) : PG w' g S P :=
  h.keep fun k o hk hm => hc.keep hk fun hpk => by
    obtain ⟨cs, t, rfl, ht⟩ := hp k o hk hpk
    rcases hm with hm | hm | hm
    · simp only [isTy] at hm
      simp only [List.mem_cons, List.not_mem_nil, or_false, not_or] at ht hm
      obtain ⟨a1, a2, a3, a4, a5, -⟩ := ht
      rcases hm with e | e | e | e | e
      · exact a1 e
      · exact a2 e
      · exact a3 e
      · exact a4 e
      · exact a5 e
    · exact hm
    · obtain ⟨cur, h1⟩ := h.F_ty hm
      rw [hk] at h1
      injection h1 with h1
      injection h1 with _ h2
      exact ht (by rw [h2]; simp)

set_option maxRecDepth 100000 in
set_option maxHeartbeats 8000000 in
theorem askA_any {w : World} {g bG bB bS : Nat} {b sl : Int} {S : Gp} {P : Pl} {L Lq : Nat} (h : PG w g S P) (h5 : S.n ≤ 5) (hG : Bx w bG 25 (.pointer (some ⟨g, 0, none⟩))) (hB : Bx w bB 3 (.int .i64 b)) (hS : Bx w bS 3 (.int .i64 sl)) (hL : Lq < 18446744073709551616) (hb0 : ∀ k, Lq.testBit (4 * k) = L.testBit (4 * k)) (hb1 : ∀ k, Lq.testBit (4 * k + 1) = L.testBit (4 * k + 1)) :
    Calls Tryz.prog 39 #[.pointer (some ⟨g, 0, none⟩), .agg #[.func (.func 40) #[] #[.pointer (some ⟨bG, 0, none⟩), .pointer (some ⟨bB, 0, none⟩), .pointer (some ⟨bS, 0, none⟩)], .int .u64 (Lq : Int)]] w fun e w' => ∃ P' tv, e = .returned (.agg #[tv, .int .i64 (goes (ask1 b sl L) ⟨S, [], 0⟩ S.n).hi]) ∧ PG w' g (goes (ask1 b sl L) ⟨S, [], 0⟩ S.n).S P' ∧ PT S.n P P' w w' ∧ Tld 75 90 w' 0 tv (goes (ask1 b sl L) ⟨S, [], 0⟩ S.n).told := by
  obtain ⟨ti, ti0, tz0, tz1, tz2⟩ := info_parts infoT
  have hb1' : Below w.heap.size w (w.alloc (.cells #[.func (.func 40) #[] #[.pointer (some ⟨bG, 0, none⟩), .pointer (some ⟨bB, 0, none⟩), .pointer (some ⟨bS, 0, none⟩)], .int .u64 (Lq : Int)] 95 (0, 0))) := below_row0 _ _
  have hb3 : Below w.heap.size w (((w.alloc (.cells #[.func (.func 40) #[] #[.pointer (some ⟨bG, 0, none⟩), .pointer (some ⟨bB, 0, none⟩), .pointer (some ⟨bS, 0, none⟩)], .int .u64 (Lq : Int)] 95 (0, 0))).alloc (.cells #[.slice none 0 0, .int .i64 0] 88 (0, 0))).alloc (.cells #[.slice none 0 0, .int .i64 0] 88 (0, 0))) := ((hb1'.alloc (by simp) _).alloc (by simp; omega) _)
  have hP3 := h.below hb3
  have c0 := hP3.c0
  obtain ⟨hq3, hr3, hh3⟩ := three11 w (.cells #[.func (.func 40) #[] #[.pointer (some ⟨bG, 0, none⟩), .pointer (some ⟨bB, 0, none⟩), .pointer (some ⟨bS, 0, none⟩)], .int .u64 (Lq : Int)] 95 (0, 0)) (.cells #[.slice none 0 0, .int .i64 0] 88 (0, 0)) (.cells #[.slice none 0 0, .int .i64 0] 88 (0, 0))
  have HP := Lib.hid h
  have HG := Lib.hid hG
  have HB := Lib.hid hB
  have HS := Lib.hid hS
  clear hG hB hS
  clear h hb1'
  go_enter Tryz.func39, Tryz.ntmps39
  go_wp2
  generalize (((w.alloc (.cells #[.func (.func 40) #[] #[.pointer (some ⟨bG, 0, none⟩), .pointer (some ⟨bB, 0, none⟩), .pointer (some ⟨bS, 0, none⟩)], .int .u64 (Lq : Int)] 95 (0, 0))).alloc (.cells #[.slice none 0 0, .int .i64 0] 88 (0, 0))).alloc (.cells #[.slice none 0 0, .int .i64 0] 88 (0, 0))) = w3 at hb3 hP3 hq3 hr3 hh3 c0 ⊢
  have HB3 := Lib.hid hb3
  have HP3 := Lib.hid hP3
  have HQ3 := Lib.hid hq3
  have HR3 := Lib.hid hr3
  have HH3 := Lib.hid hh3
  clear hb3 hP3 hq3 hr3 hh3 c0
  generalize hZ : w.heap.size = Z at *
  go_loopw [16] (fun iv wr => ∃ (k : Nat) (RS : Gp) (Rt : List (List V)) (Rh : Int) (P' : Pl) (tv : Value), k ≤ S.n ∧ iv = .int .i64 k ∧ goes (ask1 b sl L) ⟨S, [], 0⟩ k = ⟨RS, Rt, Rh⟩ ∧ RS.n = S.n ∧ PG wr g RS P' ∧ PT S.n P P' w wr ∧ wr.heap[Z]? = some (.cells #[.func (.func 40) #[] #[.pointer (some ⟨bG, 0, none⟩), .pointer (some ⟨bB, 0, none⟩), .pointer (some ⟨bS, 0, none⟩)], .int .u64 (Lq : Int)] 95 (0, 0)) ∧ wr.heap[Z + 1]? = some (.cells #[.slice none 0 0, .int .i64 0] 88 (0, 0)) ∧ wr.heap[Z + 1 + 1]? = some (.cells #[tv, .int .i64 Rh] 88 (0, 0)) ∧ Tld 75 90 wr Z tv Rt ∧ Rt.length ≤ k) (fun iv _ => S.n - (RowKit.intOf iv).toNat)
  case atStart => exact ⟨0, S, [], 0, P, .slice none 0 0, Nat.zero_le _, rfl, rfl, rfl, HP3.out, PT.of_below (by rw [hZ]; exact HB3.out), HQ3.out, HR3.out, HH3.out, Tld.nil _ _, Nat.le_refl _⟩
  case round =>
    obtain ⟨k, RS, Rt, Rh, P1, tv, hk, rfl, hR, hn, hp, hpt, hq, hr, hh, ht, htl⟩ := hrel
    have HPk := Lib.hid hp
    have HPT := Lib.hid hpt
    have HQ := Lib.hid hq
    have HRr := Lib.hid hr
    have HH := Lib.hid hh
    have HT := Lib.hid ht
    have HR := Lib.hid hR
    clear HP3 HB3 HQ3 HR3 HH3
    have q0 : wr.cell? ⟨Z, 0, none⟩ = some (.func (.func 40) #[] #[.pointer (some ⟨bG, 0, none⟩), .pointer (some ⟨bB, 0, none⟩), .pointer (some ⟨bS, 0, none⟩)]) := by rw [cell_at hq]; rfl
    have q1 : wr.cell? ⟨Z, 1, none⟩ = some (.int .u64 (Lq : Int)) := by rw [cell_at hq]; rfl
    by_cases hlt : k < S.n
    · have hkI : (k : Int) < (S.n : Int) := by omega
      have hk0 : (0 : Int) ≤ (k : Int) := by omega
      have hlt' : k < RS.n := by omega
      have c1 := hp.nodeAt hlt'
      rw [hpt.fix.1] at c1
      have cN := (hp.nd k hlt').c0
      have HU := Lib.hid (isUp_any (hp.nd k hlt'))
      have hstep : goes (ask1 b sl L) ⟨S, [], 0⟩ (k + 1) = ask1 b sl L ⟨RS, Rt, Rh⟩ k := by
        show ask1 b sl L (goes (ask1 b sl L) ⟨S, [], 0⟩ k) k = _
        rw [HR.out]
      by_cases hu : (RS.nd k).up = true
      · rw [hu] at HU
        rw [if_pos hu] at cN
        cases hbit0 : Lq.testBit (4 * k) with
        | true =>
          as_aux_lemma =>
            have e0 := bit_one hL k
            rw [hbit0] at e0
            have hst : goes (ask1 b sl L) ⟨S, [], 0⟩ (k + 1) = ⟨RS, Rt, Rh⟩ := by
              rw [hstep]; unfold ask1; exact if_pos (.inr (by rw [← hb0]; exact hbit0))
            have HSt := Lib.hid hst
            clear hp hpt hq hr hh ht hR hst hstep hbit0
            go_wp2_with (go_at_call 33; (with_reducible refine HU.out.mono ?_); rintro e w2 ⟨rfl, rfl⟩)
            go_roundw
            case rel => exact ⟨k + 1, RS, Rt, Rh, P1, tv, by omega, by go_num, HSt.out, hn, HPk.out, HPT.out, HQ.out, HRr.out, HH.out, HT.out, by omega⟩
            case measure => simp only [RowKit.intOf]; omega
        | false =>
          have e0 := bit_one hL k
          rw [hbit0] at e0
          have hneg : ¬ ((RS.nd k).up = false ∨ L.testBit (4 * k) = true) := by rw [← hb0, hbit0, hu]; simp
          have HPut := Lib.hid (show Calls Tryz.prog 40 #[.int .i64 (k : Int), .pointer (some ⟨bG, 0, none⟩), .pointer (some ⟨bB, 0, none⟩), .pointer (some ⟨bS, 0, none⟩)] wr fun e w' => ∃ vv P2, e = .returned (.tuple #[vv, .int .i64 (prepE (RS.nd k).A b)]) ∧ OwnsV 75 w' 0 vv (prepL (RS.nd k).A b sl) ∧ PG w' g (RS.set k ((RS.nd k).setA ((RS.nd k).A.prep b))) P2 ∧ PT S.n P1 P2 wr w' from by
            have := put1_any (b := b) (sl := sl) (bG := bG) (bB := bB) (bS := bS) hp (hpt.cells HP.out rfl HG.out (by decide)) (hpt.cells HP.out rfl HB.out (by decide)) (hpt.cells HP.out rfl HS.out (by decide)) k hlt' hu
            rw [hn] at this
            refine this.mono ?_
            rintro e w' ⟨vv, h1, h2, h3, h4⟩
            exact ⟨vv, P1, h1, h2, h3, h4⟩)
          have HG0 := Lib.hid ((hp.nd k hlt').acc hu)
          cases hbit1 : Lq.testBit (4 * k + 1) with
          | true =>
            as_aux_lemma =>
              have e1 := bit_two hL k
              rw [hbit1] at e1
              have hst : goes (ask1 b sl L) ⟨S, [], 0⟩ (k + 1) = ⟨RS.set k ((RS.nd k).setA ((RS.nd k).A.prep b)), Rt, Rh⟩ := by
                rw [hstep]; unfold ask1; rw [if_neg hneg]; exact if_pos (by rw [← hb1]; exact hbit1)
              have HSt := Lib.hid hst
              clear hp hpt hq hr hh ht hR hst hstep hbit0 hbit1 hneg cN
              go_wp2_with (first
                | (go_at_call 33; (with_reducible refine HU.out.mono ?_); rintro e w2 ⟨rfl, rfl⟩)
                | (go_at_call 40; (with_reducible refine HPut.out.mono ?_); rintro e w2 ⟨vv, P2, rfl, j0, j1, j2⟩; have J1 := Lib.hid j1; have J2 := Lib.hid j2; have Q2 := Lib.hid (j2.cells HPk.out hn HQ.out (by decide)); have R2 := Lib.hid (j2.cells HPk.out hn HRr.out (by decide)); have H2 := Lib.hid (j2.cells HPk.out hn HH.out (by decide)); have T2 := Lib.hid (HT.out.kept (fun b cs t ht hc => j2.cells HPk.out hn hc (by rcases ht with rfl | rfl <;> decide))); clear j0 j1 j2)
                | fail)
              go_roundw
              case rel => exact ⟨k + 1, _, Rt, Rh, P2, tv, by omega, by go_num, HSt.out, hn, J1.out, HPT.out.trans J2.out, Q2.out, R2.out, H2.out, T2.out, by omega⟩
              case measure => simp only [RowKit.intOf]; omega
          | false =>
            have e1 := bit_two hL k
            rw [hbit1] at e1
            have hneg1 : ¬ L.testBit (4 * k + 1) = true := by rw [← hb1, hbit1]; simp
            have hst : goes (ask1 b sl L) ⟨S, [], 0⟩ (k + 1) = ⟨RS.set k ((RS.nd k).setA ((RS.nd k).A.prep b)), if prepE (RS.nd k).A b = 0 then Rt ++ [prepL (RS.nd k).A b sl] else Rt, max Rh ((RS.nd k).A.prep b).p⟩ := by
              rw [hstep]; unfold ask1; rw [if_neg hneg]; exact if_neg hneg1
            have HSt := Lib.hid hst
            clear hp hpt hq hr hh ht hR hst hstep hbit0 hbit1 hneg hneg1 cN
            go_wp2_with (first
              | (go_at_call 33; (with_reducible refine HU.out.mono ?_); rintro e w2 ⟨rfl, rfl⟩)
              | (go_at_call 40; (with_reducible refine HPut.out.mono ?_); rintro e w2 ⟨vv, P2, rfl, j0, j1, j2⟩; have J0 := Lib.hid j0; have J1 := Lib.hid j1; have J2 := Lib.hid j2; have Q2 := Lib.hid (j2.cells HPk.out hn HQ.out (by decide)); have R2 := Lib.hid (j2.cells HPk.out hn HRr.out (by decide)); have H2 := Lib.hid (j2.cells HPk.out hn HH.out (by decide)); have T2 := Lib.hid (HT.out.kept (fun b cs t ht hc => j2.cells HPk.out hn hc (by rcases ht with rfl | rfl <;> decide))); clear j0 j1 j2)
              | fail)
            -- the highest promise that is heard
            have hn2 : (RS.set k ((RS.nd k).setA ((RS.nd k).A.prep b))).n = S.n := hn
            have hk2 : k < (RS.set k ((RS.nd k).setA ((RS.nd k).A.prep b))).n := by omega
            have hup2 : ((RS.set k ((RS.nd k).setA ((RS.nd k).A.prep b))).nd k).up = true := by show (at1 RS.nd k ((RS.nd k).setA ((RS.nd k).A.prep b)) k).up = true; rw [at1_same]; exact hu
            have hND := J1.out.nd k hk2
            have hA2 : ((RS.set k ((RS.nd k).setA ((RS.nd k).A.prep b))).nd k).A = (RS.nd k).A.prep b := by show (at1 RS.nd k ((RS.nd k).setA ((RS.nd k).A.prep b)) k).A = _; rw [at1_same]; rfl
            have hbd : Below w2.heap.size w2 w2.drew := (Below.refl _ _).drew
            have f0 : w2.drew.cell? ⟨P2.nds k, 0, none⟩ = some (.pointer (some ⟨P2.ac k, 0, none⟩)) := by
              have := (J1.out.below hbd).nd k hk2 |>.c0
              rw [if_pos hup2] at this; exact this
            have hnds : P2.nds k = P1.nds k := by rw [J2.out.fix.2.2.2.1]
            rw [hnds] at f0
            have hHd : w2.drew.heap[Z + 1 + 1]? = some (.cells #[tv, .int .i64 Rh] 88 (0, 0)) := H2.out
            have f1 : w2.drew.cell? ⟨Z + 1 + 1, 1, none⟩ = some (.int .i64 Rh) := by rw [cell_at hHd]; rfl
            have f2 : w2.drew.frozen? ⟨Z + 1 + 1, 1, none⟩ = false := free_at hHd 1
            have hPA := hND.acc hup2
            rw [hA2] at hPA
            have HPm := Lib.hid (promised_any (P2.ac k) _ _ w2.drew (hPA.below hbd).pc)
            clear hND hPA hHd hup2 hA2
            go_region_law (first | (go_simp; go_at_call 56; refine HPm.out.mono ?_; rintro e w' ⟨rfl, rfl⟩) | fail)
            all_goals as_aux_lemma =>
              have hset : (w2.setCell ⟨Z + 1 + 1, 1, none⟩ (.int .i64 (max Rh ((RS.nd k).A.prep b).p))).drew.heap[Z + 1 + 1]? = some (.cells #[tv, .int .i64 (max Rh ((RS.nd k).A.prep b).p)] 88 (0, 0)) := heap_setCell H2.out 1 _
              have hfb : Fb (Z + 1 + 1) w2 (w2.setCell ⟨Z + 1 + 1, 1, none⟩ (.int .i64 (max Rh ((RS.nd k).A.prep b).p))).drew := (Fb.same.set 1 _).drew
              have hc3 : Chg (fun k _ => k = Z + 1 + 1) w2 (w2.setCell ⟨Z + 1 + 1, 1, none⟩ (.int .i64 (max Rh ((RS.nd k).A.prep b).p))).drew := Chg.of_fb hfb (fun _ _ => rfl)
              clear f0 f1 f2 HPm q0 q1 c1 hbd
              generalize (w2.setCell ⟨Z + 1 + 1, 1, none⟩ (.int .i64 (max Rh ((RS.nd k).A.prep b).p))).drew = w4 at hset hfb hc3 ⊢
              have hne3 : ∀ (b : Nat) (cs : Array Value) (t : TypeId), t ≠ 88 → w2.heap[b]? = some (Obj.cells cs t (0, 0)) → w4.heap[b]? = some (Obj.cells cs t (0, 0)) := fun b cs t ht hb => hc3.keep hb fun e => by
                have e' : b = Z + 1 + 1 := e
                rw [e', H2.out] at hb
                injection hb with hb
                injection hb with _ h2
                exact ht h2.symm
              have HG4 := Lib.hid (J1.out.other hc3 (fun b o hb e => by
                have e' : b = Z + 1 + 1 := e
                rw [e', H2.out] at hb
                injection hb with hb
                exact ⟨_, _, hb.symm, by decide⟩))
              have HPT4 := Lib.hid ((HPT.out.trans J2.out).fresh hc3 (fun b o e => by have e' : b = Z + 1 + 1 := e; omega))
              have HQ4 := Lib.hid (hne3 _ _ _ (by decide) Q2.out)
              have HR4 := Lib.hid (hc3.keep R2.out (fun e => by have e' : Z + 1 = Z + 1 + 1 := e; omega))
              have HH4 := Lib.hid hset
              have HT4 := Lib.hid (T2.out.kept (fun b cs t ht hb => hne3 b cs t (by rcases ht with rfl | rfl <;> decide) hb))
              have HV4 := Lib.hid (J0.out.kept (w' := w4) (fun b hb => by
                obtain ⟨cur, h1⟩ := owns_type J0.out hb
                rw [h1]; exact hne3 _ _ _ (by decide) h1))
              clear hset hfb hc3 hne3
              by_cases hE : prepE (RS.nd k).A b = 0
              · have hEb : (prepE (RS.nd k).A b == 0) = true := by rw [hE]; rfl
                have hst1 : goes (ask1 b sl L) ⟨S, [], 0⟩ (k + 1) = ⟨RS.set k ((RS.nd k).setA ((RS.nd k).A.prep b)), Rt ++ [prepL (RS.nd k).A b sl], max Rh ((RS.nd k).A.prep b).p⟩ := by rw [HSt.out, if_pos hE]
                have HSt1 := Lib.hid hst1
                have hba : Below w4.heap.size w4 (w4.alloc (.cells #[vv] 90)) := below_row0 _ _
                have hHa : (w4.alloc (.cells #[vv] 90)).heap[Z + 1 + 1]? = some (.cells #[tv, .int .i64 (max Rh ((RS.nd k).A.prep b).p)] 88 (0, 0)) := (hba.block _ (lt_of HH4.out)).trans HH4.out
                obtain ⟨xs, ho, hone, hmore⟩ := (HT4.out.below hba).row
                have f0 : w4.cell? ⟨Z + 1 + 1, 0, none⟩ = some tv := by rw [cell_at HH4.out]; rfl
                have f1 : (w4.alloc (.cells #[vv] 90)).cell? ⟨Z + 1 + 1, 0, none⟩ = some tv := by rw [cell_at hHa]; rfl
                obtain ⟨Av, cv, hvv, -⟩ := vshape HV4.out
                obtain ⟨N, hN⟩ : ∃ N, (prepL (RS.nd k).A b sl : List V).length = N := ⟨_, rfl⟩
                rw [hN] at hvv
                have HVa := Lib.hid (OwnsV.below hba HV4.out)
                obtain ⟨At, ct, htv⟩ := HT4.out.shape
                subst htv
                subst hvv
                have HO := Lib.hid ho
                have HM := Lib.hid hmore
                have HBa := Lib.hid hba
                have HHa := Lib.hid hHa
                have hZ4 : Z ≤ w4.heap.size := by have := lt_of HH4.out; omega
                clear ho hone hmore hba hHa hst1 hE hN
                go_wp2_with (at_builtin; refine wpList_append_lies _ rfl (.tmp 56) (.tmp 58) 86 rfl Z 90 ti _ 1 24 Tryz.underlying86 ti0 tz0 tz1 tz2 rfl (by decide) _ Rt.length xs rfl HO.out ⟨w4.heap.size, 0, none⟩ 1 1 [.slice Av N cv] rfl rfl (World.news_of_block (heap_alloc_new w4 _)) (by intro x hx; obtain rfl := List.mem_singleton.1 hx; rfl) (by decide) (by unfold maxLen; omega) (by omega) (by simp; omega) (w4.heap.size + 1) (by simp) ?_; intro g2 cap w6 hown hgrow _ _; (have hH6 : w6.heap[Z + 1 + 1]? = some (.cells #[.slice At Rt.length ct, .int .i64 (max Rh ((RS.nd k).A.prep b).p)] 88 (0, 0)) := (hgrow.block _ (lt_of HHa.out) (fun e => by obtain ⟨c2, h4⟩ := owns_type HO.out e.symm; rw [HHa.out] at h4; injection h4 with h4; injection h4 with _ h5; exact absurd h5 (by decide))).trans HHa.out); have f3 : w6.frozen? ⟨Z + 1 + 1, 0, none⟩ = false := free_at hH6 0; (have f4 : w6.cell? ⟨Z + 1 + 1, 0, none⟩ = some (.slice At Rt.length ct) := by rw [cell_at hH6]; rfl); have K3 := Lib.hid (HM.out w6 g2 cap _ _ HVa.out hown hgrow (by decide)); have K4 := Lib.hid (Chg.of_grown hgrow); have K5 := Lib.hid hH6; clear hown hgrow hH6)
                have hset := heap_setCell K5.out 0 (.slice (some ⟨g2, 0, none⟩) (Rt.length + 1) cap)
                have hc6 : Chg (fun k _ => k = Z + 1 + 1) w6 (w6.setCell ⟨Z + 1 + 1, 0, none⟩ (.slice (some ⟨g2, 0, none⟩) (Rt.length + 1) cap)) := Chg.of_fb (Fb.same.set 0 _) (fun _ _ => rfl)
                have hrow : ∀ b, (Value.slice At Rt.length ct).ownBlock = some b → Z ≤ b ∧ ∃ cs, (w4.alloc (.cells #[.slice Av N cv] 90)).heap[b]? = some (.cells cs 90 (0, 0)) := fun b hb => ⟨(World.ownsRow.lt HO.out b hb).1, owns_type HO.out hb⟩
                clear f3 f4
                generalize w6.setCell ⟨Z + 1 + 1, 0, none⟩ (.slice (some ⟨g2, 0, none⟩) (Rt.length + 1) cap) = w7 at hset hc6 ⊢
                have keep7 : ∀ (b : Nat) (cs : Array Value) (t : TypeId), t ≠ 88 → w6.heap[b]? = some (Obj.cells cs t (0, 0)) → w7.heap[b]? = some (Obj.cells cs t (0, 0)) := fun b cs t ht hb => hc6.keep hb fun e => by
                  have e' : b = Z + 1 + 1 := e
                  rw [e', K5.out] at hb
                  injection hb with hb
                  injection hb with _ h2
                  exact ht h2.symm
                have keep6 : ∀ (b : Nat) (cs : Array Value) (t : TypeId), t ≠ 90 → (w4.alloc (.cells #[.slice Av N cv] 90)).heap[b]? = some (Obj.cells cs t (0, 0)) → w6.heap[b]? = some (Obj.cells cs t (0, 0)) := fun b cs t ht hb => K4.out.keep hb fun e => by
                  obtain ⟨-, cs', h⟩ := hrow b e
                  rw [hb] at h
                  injection h with h
                  injection h with _ h2
                  exact ht h2
                have HG7 := Lib.hid (((HG4.out.below HBa.out).other K4.out (fun b o hb e => by
                  obtain ⟨-, cs', h⟩ := hrow b e
                  rw [hb] at h
                  injection h with h
                  exact ⟨_, _, h, by decide⟩)).other hc6 (fun b o hb e => by
                  have e' : b = Z + 1 + 1 := e
                  rw [e', K5.out] at hb
                  injection hb with hb
                  exact ⟨_, _, hb.symm, by decide⟩))
                have HPT7 := Lib.hid (((HPT4.out.fresh (Chg.of_below (p := fun _ _ => False) HBa.out) (fun _ _ h => h.elim)).fresh K4.out (fun b o e => by have := (hrow b e).1; omega)).fresh hc6 (fun b o e => by have e' : b = Z + 1 + 1 := e; omega))
                have HQ7 := Lib.hid (keep7 _ _ _ (by decide) (keep6 _ _ _ (by decide) ((HBa.out.block _ (lt_of HQ4.out)).trans HQ4.out)))
                have HR7 := Lib.hid (hc6.keep (keep6 _ _ _ (by decide) ((HBa.out.block _ (lt_of HR4.out)).trans HR4.out)) (fun e => by have e' : Z + 1 = Z + 1 + 1 := e; omega))
                have HT7 := Lib.hid (K3.out.kept (fun b cs t ht hb => keep7 b cs t (by rcases ht with rfl | rfl <;> decide) hb))
                have HH7 := Lib.hid hset
                clear keep6 keep7 hset hc6 hrow
                go_roundw
                case rel => exact ⟨k + 1, _, _, _, P2, _, by omega, by go_num, HSt1.out, hn2, HG7.out, HPT7.out, HQ7.out, HR7.out, HH7.out, HT7.out, by rw [List.length_append, List.length_singleton]; omega⟩
                case measure => simp only [RowKit.intOf]; omega
              · have hEb : (prepE (RS.nd k).A b == 0) = false := by simpa using hE
                have hst1 : goes (ask1 b sl L) ⟨S, [], 0⟩ (k + 1) = ⟨RS.set k ((RS.nd k).setA ((RS.nd k).A.prep b)), Rt, max Rh ((RS.nd k).A.prep b).p⟩ := by rw [HSt.out, if_neg hE]
                have HSt1 := Lib.hid hst1
                clear hst1
                go_wp2
                go_roundw
                case rel => exact ⟨k + 1, _, _, _, P2, tv, by omega, by go_num, HSt1.out, hn2, HG4.out, HPT4.out, HQ4.out, HR4.out, HH4.out, HT4.out, by omega⟩
                case measure => simp only [RowKit.intOf]; omega
      · have hu' : (RS.nd k).up = false := by simpa using hu
        rw [hu'] at HU
        have hst : goes (ask1 b sl L) ⟨S, [], 0⟩ (k + 1) = ⟨RS, Rt, Rh⟩ := by
          rw [hstep]; unfold ask1; exact if_pos (.inl hu')
        have HSt := Lib.hid hst
        clear hp hpt hq hr hh ht hR hst hstep cN
        go_wp2_with (go_at_call 33; (with_reducible refine HU.out.mono ?_); rintro e w2 ⟨rfl, rfl⟩)
        go_roundw
        case rel => exact ⟨k + 1, RS, Rt, Rh, P1, tv, by omega, by go_num, HSt.out, hn, HPk.out, HPT.out, HQ.out, HRr.out, HH.out, HT.out, by omega⟩
        case measure => simp only [RowKit.intOf]; omega
    · obtain rfl : k = S.n := by omega
      as_aux_lemma =>
        have hlI : ¬ ((S.n : Int) < (S.n : Int)) := by omega
        have f0 : wr.cell? ⟨Z + 1 + 1, 0, none⟩ = some tv := by rw [cell_at hh]; rfl
        have f1 : wr.cell? ⟨Z + 1 + 1, 1, none⟩ = some (.int .i64 Rh) := by rw [cell_at hh]; rfl
        have g0 : wr.cell? ⟨Z + 1, 0, none⟩ = some (.slice none 0 0) := by rw [cell_at hr]; rfl
        have g1 : wr.cell? ⟨Z + 1, 1, none⟩ = some (.int .i64 0) := by rw [cell_at hr]; rfl
        have g2 : wr.frozen? ⟨Z + 1, 0, none⟩ = false := free_at hr 0
        have g3 : wr.frozen? ⟨Z + 1, 1, none⟩ = false := free_at hr 1
        obtain ⟨At, ct, htv⟩ := HT.out.shape
        subst htv
        clear hp hpt hq hr hh ht hR q0 q1
        go_wp2
        have hs0 := heap_setCell (heap_setCell HRr.out 0 (.slice At Rt.length ct)) 1 (.int .i64 Rh)
        have hc : Chg (fun k _ => k = Z + 1) wr ((wr.setCell ⟨Z + 1, 0, none⟩ (.slice At Rt.length ct)).setCell ⟨Z + 1, 1, none⟩ (.int .i64 Rh)) := Chg.of_fb ((Fb.same.set 0 _).set 1 _) (fun _ _ => rfl)
        clear f0 f1 g0 g1 g2 g3
        generalize (wr.setCell ⟨Z + 1, 0, none⟩ (.slice At Rt.length ct)).setCell ⟨Z + 1, 1, none⟩ (.int .i64 Rh) = w4 at hs0 hc ⊢
        have hs1 : w4.heap[Z + 1]? = some (.cells #[.slice At Rt.length ct, .int .i64 Rh] 88 (0, 0)) := hs0
        have hne : ∀ (b : Nat) (cs : Array Value) (t : TypeId), t ≠ 88 → wr.heap[b]? = some (Obj.cells cs t (0, 0)) → w4.heap[b]? = some (Obj.cells cs t (0, 0)) := fun b cs t ht hb => hc.keep hb fun e => by
          have e' : b = Z + 1 := e
          rw [e', HRr.out] at hb
          injection hb with hb
          injection hb with _ h2
          exact ht h2.symm
        have HG4 := HPk.out.other hc (fun b o hb e => by
          have e' : b = Z + 1 := e
          rw [e', HRr.out] at hb
          injection hb with hb
          exact ⟨_, _, hb.symm, by decide⟩)
        have HPT4 := HPT.out.fresh hc (fun b o e => by have e' : b = Z + 1 := e; omega)
        have HT4 := HT.out.kept (fun b cs t ht hb => hne b cs t (by rcases ht with rfl | rfl <;> decide) hb)
        (try simp only [Exit.inBlock, Exit.then])
        refine bodyPost_ret (results_cell_row rfl _ _ (Z + 1) 88 #[.slice At Rt.length ct, .int .i64 Rh] (0, 0) _ rfl hs1 Tryz.underlying88 rfl (by kernel_rfl)) rfl ?_
        rw [HR.out]
        exact ⟨P1, _, rfl, HG4, HPT4, HT4.mono (Nat.zero_le _)⟩
end Go.Proofs.YtkcbmkedhipgeaaGreatDoor
