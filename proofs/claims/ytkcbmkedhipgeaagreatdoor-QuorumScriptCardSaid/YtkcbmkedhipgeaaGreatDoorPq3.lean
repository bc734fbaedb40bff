/-
  has, isMajority, isUp, Len (package quorum) and bits.OnesCount8, by contracts.

  Chosen (package quorum), by a contract.

  note (package quorum), by a contract.
-/
import Derived.Test.YtkcbmkedhipgeaaGreatDoorMem11
import Derived.BigRegion
namespace Go.Proofs.YtkcbmkedhipgeaaGreatDoor
open Go.RowKit

theorem isUp_any {w : World} {P : Pl} {i : Nat} {x : Nd} (h : ND w P i x) : Calls Tryz.prog 33 #[.pointer (some ⟨P.nds i, 0, none⟩)] w fun e w' => e = .returned (.bool x.up) ∧ w = w' := by
  have c0 := h.c0
  clear h
  generalize P.nds i = b at c0 ⊢
  obtain ⟨up, A, log, rd⟩ := x
  cases up
  · simp only [Bool.false_eq_true, if_false] at c0
    go_enter Tryz.func33, Tryz.ntmps33
    go_wp2
    go_ret
    exact ⟨rfl, rfl⟩
  · simp only [if_true] at c0
    go_enter Tryz.func33, Tryz.ntmps33
    go_wp2
    go_ret
    exact ⟨rfl, rfl⟩
theorem has_any {w : World} {g : Nat} {S : Gp} {P : Pl} (h : PG w g S P) (i : Int) : Calls Tryz.prog 28 #[.pointer (some ⟨g, 0, none⟩), .int .i64 i] w fun e w' => e = .returned (.bool (S.has i)) ∧ w = w' := by
  have c0 := h.c0
  unfold Gp.has
  clear h
  by_cases h0 : 0 ≤ i
  · by_cases h1 : i < (S.n : Int)
    · rw [decide_eq_true ⟨h0, h1⟩]
      go_enter Tryz.func28, Tryz.ntmps28
      go_wp2
      go_ret
      exact ⟨rfl, rfl⟩
    · rw [decide_eq_false (fun h => h1 h.2)]
      go_enter Tryz.func28, Tryz.ntmps28
      go_wp2
      go_ret
      exact ⟨rfl, rfl⟩
  · rw [decide_eq_false (fun h => h0 h.1)]
    go_enter Tryz.func28, Tryz.ntmps28
    go_wp2
    go_ret
    exact ⟨rfl, rfl⟩
theorem maj_any {w : World} {g : Nat} {S : Gp} {P : Pl} (h : PG w g S P) (c : Nat) (hc : c ≤ 1000) : Calls Tryz.prog 31 #[.pointer (some ⟨g, 0, none⟩), .int .i64 (c : Int)] w fun e w' => e = .returned (.bool (decide (S.n < 2 * c))) ∧ w = w' := by
  have c0 := h.c0
  clear h
  by_cases h1 : (S.n : Int) < 2 * (c : Int)
  · rw [decide_eq_true (by omega : S.n < 2 * c)]
    go_enter Tryz.func31, Tryz.ntmps31
    go_wp2
    go_ret
    exact ⟨rfl, rfl⟩
  · rw [decide_eq_false (by omega : ¬ S.n < 2 * c)]
    go_enter Tryz.func31, Tryz.ntmps31
    go_wp2
    go_ret
    exact ⟨rfl, rfl⟩
theorem len_any {w : World} {g : Nat} {S : Gp} {P : Pl} (h : PG w g S P) : Calls Tryz.prog 13 #[.pointer (some ⟨g, 0, none⟩)] w fun e w' => e = .returned (.int .i64 (S.n : Int)) ∧ w = w' := by
  have c0 := h.c0
  clear h
  go_enter Tryz.func13, Tryz.ntmps13
  go_wp2
  go_ret
  exact ⟨rfl, rfl⟩
set_option maxRecDepth 100000 in
theorem count_any (m : Nat) (hm : m < 32) (w : World) : Calls Tryz.prog 32 #[.int .u8 (m : Int)] w fun e w' => e = .returned (.int .i64 (cntB m : Int)) ∧ w = w' := by
  rcases (by omega : m = 0 ∨ m = 1 ∨ m = 2 ∨ m = 3 ∨ m = 4 ∨ m = 5 ∨ m = 6 ∨ m = 7 ∨ m = 8 ∨ m = 9 ∨ m = 10 ∨ m = 11 ∨ m = 12 ∨ m = 13 ∨ m = 14 ∨ m = 15 ∨ m = 16 ∨ m = 17 ∨ m = 18 ∨ m = 19 ∨ m = 20 ∨ m = 21 ∨ m = 22 ∨ m = 23 ∨ m = 24 ∨ m = 25 ∨ m = 26 ∨ m = 27 ∨ m = 28 ∨ m = 29 ∨ m = 30 ∨ m = 31) with rfl | rfl | rfl | rfl | rfl | rfl | rfl | rfl | rfl | rfl | rfl | rfl | rfl | rfl | rfl | rfl | rfl | rfl | rfl | rfl | rfl | rfl | rfl | rfl | rfl | rfl | rfl | rfl | rfl | rfl | rfl | rfl
  all_goals (
    go_enter Tryz.func32, Tryz.ntmps32
    go_wp2
    go_ret
    exact ⟨by kernel_rfl, rfl⟩)
end Go.Proofs.YtkcbmkedhipgeaaGreatDoor

namespace Go.Proofs.YtkcbmkedhipgeaaGreatDoor
open Go.RowKit Go.ChangeMaps

theorem Inv.choAt {S : Gp} {f : Nat → Int} (h : Inv S f) {s : Int} {u : V} {m : Nat} (hp : (u, m) ∈ S.tab s) (hb : S.n < 2 * cntB m) : choOf S s = (u.x, true) := by
  obtain ⟨h1, h2⟩ := h.big hp hb
  rw [← h2]; exact h.chosen h1
/-- What Chosen needs of what is noted. -/
structure TabOk (S : Gp) : Prop where
  n5 : S.n ≤ 5
  t0 : ∀ s, GoodR (S.tab s)
  big : ∀ s u m, (u, m) ∈ S.tab s → S.n < 2 * cntB m → choOf S s = (u.x, true)
theorem Inv.tabOk {S : Gp} {f : Nat → Int} (h : Inv S f) : TabOk S := ⟨h.n5, h.t0, fun _ _ _ => h.choAt⟩
theorem TabOk.same {S S' : Gp} (h : TabOk S) (hn : S'.n = S.n) (ht : S'.tab = S.tab) : TabOk S' := by
  have hc : ∀ s, choOf S' s = choOf S s := fun s => by unfold choOf; rw [hn, ht]
  exact ⟨by rw [hn]; exact h.n5, by rw [ht]; exact h.t0, fun s u m hp hb => by rw [ht] at hp; rw [hn] at hb; rw [hc]; exact h.big s u m hp hb⟩
theorem choNo {S : Gp} {s : Int} (h : ∀ p ∈ S.tab s, ¬ S.n < 2 * cntB p.2) : choOf S s = (⟨#[]⟩, false) := by
  unfold choOf chosR
  rw [List.find?_eq_none.2 fun p hp => by simpa using h p hp]
  rfl
theorem mem_row {L : List En} {e : En} (h : e ∈ L) : (e.v, e.m) ∈ rowE L := List.mem_map.2 ⟨e, h, rfl⟩
theorem below_fbI {B r : Nat} {w0 w w' : World} (h : Below B w0 w) (hf : Fb r w w') (hr : B ≤ r) (hB : B ≤ w.heap.size) : Below B w0 w' := below_fb h hf hr hB

set_option maxRecDepth 100000 in
set_option maxHeartbeats 2000000 in
theorem chosen_any {w : World} {g : Nat} {S : Gp} {P : Pl} (h : PG w g S P) (hI : TabOk S) (s : Int) (hs : i64 s) :
    Calls Tryz.prog 18 #[.pointer (some ⟨g, 0, none⟩), .int .i64 s] w fun e w' => e = .returned (.tuple #[.string (choOf S s).1, .bool (choOf S s).2]) ∧ Below w.heap.size w w' := by
  have c1 := h.c1
  have hlook := h.tab.om.look hs
  have HP := Lib.hid h
  have H5 := Lib.hid hI.n5
  cases hb : blkO P.O s with
  | none =>
    rw [hb] at hlook
    have hno : S.tab s = [] := h.tab.no s hb
    rw [choNo (by rw [hno]; intro p hp; cases hp)]
    have hrg := run_range_nilMap (P := Tryz.prog) w 73 75 76 Tryz.underlying73
    have hnx : ∀ ty, (Instr.next (.pointer (some ⟨w.heap.size, 0, none⟩)) false ty).run Tryz.prog (w.alloc (.mapIter none 0 #[] 0)) = _ := fun ty => run_next_nilMap w ty 0 0 #[]
    have HB := Lib.hid (below_row0 w (.mapIter none 0 #[] 0))
    clear h hI hb hno
    go_enter Tryz.func18, Tryz.ntmps18
    go_wp2
    refine wp_loop_rounds 1 ?_
    rw [rounds_succ]
    go_wp2
    go_ret2
    exact ⟨rfl, HB.out⟩
  | some b =>
    rw [hb] at hlook
    obtain ⟨hbm, L, cl, hL, hrow⟩ := h.tab.row s b hb
    have HL := Lib.hid hL
    have HAt := Lib.hid (fun (e : En) (he : e ∈ L) (hm : S.n < 2 * cntB e.m) => hI.big s e.v e.m (by rw [← hrow]; exact mem_row he) hm)
    have HNo := Lib.hid (fun (hn : ∀ e ∈ L, ¬ S.n < 2 * cntB e.m) => choNo (S := S) (s := s) (by
      rw [← hrow]
      intro p hp
      obtain ⟨e, he, rfl⟩ := List.mem_map.1 hp
      exact hn e he))
    have HLt := Lib.hid (fun (e : En) (he : e ∈ L) => (hI.t0 s).lt (e.v, e.m) (by rw [← hrow]; exact mem_row he))
    clear h hI hb hL hrow
    go_enter Tryz.func18, Tryz.ntmps18
    go_wp2_with (at_range; refine wpList_range_im _ rfl _ rfl b L cl rfl HL.out ?_; intro w0 hrg0 hb0 hs0)
    have HR0 := Lib.hid hrg0
    have HB0 := Lib.hid hb0
    clear hrg0 hb0 hs0 hlook
    go_loopw [] (fun wr => ∃ seen, Rgi wr b w.heap.size L cl seen ∧ (∀ e ∈ L, seen.contains e.t = true → ¬ S.n < 2 * cntB e.m) ∧ Below w.heap.size w wr) (fun wr => wr.rangeLeft b w.heap.size)
    case atStart => exact ⟨#[], HR0.out, fun e _ h => by simp at h, HB0.out⟩
    case round =>
      obtain ⟨seen, hrg, hno, hbw⟩ := hrel
      have HR := Lib.hid hrg
      have HN := Lib.hid hno
      have HB := Lib.hid hbw
      clear hrg hno hbw HR0 HB0
      go_wp2_with (first | (at_next; refine wpList_next_im _ rfl _ rfl b w.heap.size L cl seen rfl HR.out ?_ ?_) | go_in)
      · intro hdone
        have HE := Lib.hid (HNo.out fun e he => HN.out e he (by have := hdone e he; simpa using this))
        clear hdone
        go_wp2
        go_ret2
        exact ⟨by rw [HE.out]; rfl, HB.out⟩
      · intro e w1 he hes hrg1 hfb hs1 hen
        have hm := HLt.out e he
        have HC := Lib.hid (count_any e.m hm.1)
        have hb1 := below_fbI HB.out hfb (Nat.le_refl _) HB.out.size
        have hba : Below w1.heap.size w1 (w1.alloc (.cells e.v.cells 75)) := below_row0 w1 _
        have hB2 := hb1.trans (hba.mono hb1.size)
        have HB2 := Lib.hid hB2
        have hav : AV 75 (w1.alloc (.cells e.v.cells 75)) w1.heap.size e.v := AV.fresh 75 w1 e.v
        obtain ⟨d0, d1, d2⟩ := hav.all
        have HM := Lib.hid (maj_any (HP.out.below hB2) (cntB e.m) (by have := cntP_le 5 (hasB e.m); unfold cntB; omega))
        have HR2 := Lib.hid (hrg1.of_blocks (hba.block _ hrg1.im.lt) (hba.block _ hrg1.lt))
        have HLf := Lib.hid (left_push he (by simpa using hes))
        have HRl := Lib.hid HR.out.left
        have HSt := Lib.hid (fun hnm : ¬ S.n < 2 * cntB e.m => show ∀ x ∈ L, (seen.push e.t).contains x.t = true → ¬ S.n < 2 * cntB x.m from fun x hx hc => by
          rw [contains_push] at hc
          rcases Bool.or_eq_true_iff.1 hc with hc | hc
          · exact HN.out x hx hc
          · have : x = e := time_one HL.out.2.times hx he (by simpa using hc)
            rw [this]; exact hnm)
        have hs0 : (Instr.entry (.pointer (some ⟨w.heap.size, 0, none⟩))).run Tryz.prog w1 = .ok (.tuple #[e.v.val, .int .u8 (e.m : Int)]) w1 := hen
        clear hb1 hba hB2 hav hrg1 hfb hes hen hm
        by_cases hmaj : S.n < 2 * cntB e.m
        · rw [decide_eq_true hmaj] at HM
          have HE := Lib.hid (HAt.out e he hmaj)
          clear hmaj he
          go_wp2_with (first | (go_at_call 32; refine (HC.out _).mono ?_; rintro e' w' ⟨rfl, rfl⟩) | (go_at_call 31; refine HM.out.mono ?_; rintro e' w' ⟨rfl, rfl⟩) | fail)
          go_ret2
          exact ⟨by rw [HE.out]; rfl, HB2.out⟩
        · rw [decide_eq_false hmaj] at HM
          have HS2 := Lib.hid (HSt.out hmaj)
          clear hmaj he
          go_wp2_with (first | (go_at_call 32; refine (HC.out _).mono ?_; rintro e' w' ⟨rfl, rfl⟩) | (go_at_call 31; refine HM.out.mono ?_; rintro e' w' ⟨rfl, rfl⟩) | fail)
          go_roundw
          case rel => exact ⟨seen.push e.t, HR2.out, HS2.out, HB2.out⟩
          case measure => rw [HR2.out.left, HRl.out]; exact HLf.out
end Go.Proofs.YtkcbmkedhipgeaaGreatDoor

namespace Go.Proofs.YtkcbmkedhipgeaaGreatDoor
open Go.RowKit Go.ChangeMaps

theorem shl_bit : ∀ i, i < 5 → (2 : Int) ^ i % (256 : Int) = ((1 <<< i : Nat) : Int) := by decide +kernel
set_option maxRecDepth 100000 in
theorem eq_nil (a : Option Nat) (W : World) : (binOp .eql 73 (.map a) (.map none)).run Tryz.prog W = .ok (.bool a.isNone) W := by cases a <;> rfl
theorem clr_bit : ∀ m, m < 32 → ∀ i, i < 5 → bits .andNot .u8 ((m : Nat) : Int) ((1 : Int) <<< i) = ((clr m i : Nat) : Int) := by decide +kernel
theorem add_bit : ∀ m, m < 32 → ∀ i, i < 5 → bits .or .u8 ((m : Nat) : Int) ((1 : Int) <<< i) = ((addB m i : Nat) : Int) := by decide +kernel
theorem msk_set {L : List En} {e : En} (he : e ∈ L) (m : Nat) : mskE (setE' L e.v m) e.v = m := by
  unfold mskE setE'
  rw [List.find?_map]
  cases hf : L.find? ((fun x : En => decide (x.v = e.v)) ∘ fun x => if x.v = e.v then { x with m := m } else x) with
  | none =>
    have := List.find?_eq_none.1 hf e he
    simp at this
  | some x =>
    have h1 := List.find?_some hf
    simp only [Function.comp, decide_eq_true_eq] at h1
    have h2 : x.v = e.v := by
      split at h1
      · assumption
      · exact h1
    simp only [Option.map]
    rw [if_pos h2]
/-- One slot's row has turned. -/
theorem VT.turn {w w' : World} {mb b : Nat} {O : List On} {c : Nat} {T T' : Int → Row} {s0 : Int} {L : List En} {cl B : Nat} (h : VT B w mb O c T) (hc : Chg (fun k _ => k = b) w w') (hb : blkO O s0 = some b) (hi : IM w' b L cl) (hr : rowE L = T' s0) (ho : ∀ s, s ≠ s0 → T' s = T s) : VT B w' mb O c T' := by
  have hne := (h.row s0 b hb).1
  refine ⟨⟨hc.keep h.om.1 (fun e => hne e.symm), h.om.2⟩, fun s b' hb' => ?_, fun s hn => ?_, h.apart, h.lo, h.los⟩
  · by_cases e : s = s0
    · subst e
      rw [hb] at hb'
      injection hb' with hb'
      subst hb'
      exact ⟨hne, L, cl, hi, hr⟩
    · obtain ⟨h1, L1, c1, h2, h3⟩ := h.row s b' hb'
      exact ⟨h1, L1, c1, ⟨hc.keep h2.1 (fun e1 => e (h.apart s s0 b' hb' (by rw [hb, e1]))), h2.2⟩, by rw [h3, ho s e]⟩
  · rw [ho s (fun e => by rw [e, hb] at hn; cases hn)]; exact h.no s hn
/-- A slot has its first row. -/
theorem VT.first {w w' : World} {mb b : Nat} {O : List On} {c : Nat} {T T' : Int → Row} {s0 : Int} {L : List En} {cl B : Nat} (h : VT B w mb O c T) (hc : Chg (fun k _ => k = mb) w w') (hb : blkO O s0 = none) (hnew : w.heap.size ≤ b) (hom : OM w' mb (O ++ [⟨s0, b, c⟩]) (c + 1)) (hi : IM w' b L cl) (hr : rowE L = T' s0) (ho : ∀ s, s ≠ s0 → T' s = T s) : VT B w' mb (O ++ [⟨s0, b, c⟩]) (c + 1) T' := by
  have hlt := h.om.lt
  refine ⟨hom, fun s b' hb' => ?_, fun s hn => ?_, fun s s' b' h1 h2 => ?_, h.lo, fun s b' hb' => by
    rw [blk_push hb] at hb'
    split at hb'
    · injection hb' with hb'
      have := h.lo; omega
    · exact h.los s b' hb'⟩
  · rw [blk_push hb] at hb'
    split at hb'
    · rename_i e
      injection hb' with hb'
      subst hb'
      exact ⟨by omega, L, cl, hi, by rw [e]; exact hr⟩
    · rename_i e
      obtain ⟨h1, L1, c1, h2, h3⟩ := h.row s b' hb'
      exact ⟨h1, L1, c1, ⟨hc.keep h2.1 h1, h2.2⟩, by rw [h3, ho s e]⟩
  · rw [blk_push hb] at hn
    split at hn
    · cases hn
    · rename_i e
      rw [ho s e]; exact h.no s hn
  · rw [blk_push hb] at h1 h2
    split at h1
    · rename_i e
      split at h2
      · rename_i e'; exact e.trans e'.symm
      · obtain ⟨-, L1, c1, h3, -⟩ := h.row s' b' h2
        injection h1 with h1
        have := h3.lt
        omega
    · split at h2
      · obtain ⟨-, L1, c1, h3, -⟩ := h.row s b' h1
        injection h2 with h2
        have := h3.lt
        omega
      · exact h.apart s s' b' h1 h2
theorem msk_lt {L : List En} (h : ∀ e ∈ L, e.m < 32) (v : V) : mskE L v < 32 := by
  unfold mskE
  split
  · rename_i e he; exact h e (List.mem_of_find?_eq_some he)
  · decide
theorem PG.noted {w w' : World} {g : Nat} {S : Gp} {P : Pl} (h : PG w g S P) (hc : Chg (fun k o => P.B ≤ k ∧ isMp o) w w') {O : List On} {c : Nat} {T : Int → Row} (hv : VT P.B w' P.mb O c T) : PG w' g { S with tab := T } { P with O := O, c := c } := by
  have hk : ∀ (k : Nat) (cs : Array Value) (t : TypeId) (f : Nat × Nat), w.heap[k]? = some (Obj.cells cs t f) → w'.heap[k]? = some (Obj.cells cs t f) := fun k cs t f hk => hc.keep hk (fun h => h.2)
  obtain ⟨cs, h1, h2⟩ := h.row
  refine ⟨hk _ _ _ _ h.grp, ⟨cs, hk _ _ _ _ h1, h2⟩, fun i hi => ?_, h.ndsNe, h.acNe, h.lrNe, hv⟩
  have hn := h.nd i hi
  refine ⟨hk _ _ _ _ hn.cs, fun hu => (hn.acc hu).keptTy fun k cs t f hc _ => hk _ _ _ _ hc, hn.sav, hn.good, hn.log.kept fun b hb => ?_, hn.lo, hn.loA⟩
  obtain ⟨cur, h3⟩ := hn.log.ty hb
  rw [h3]; exact hk _ _ _ _ h3

set_option maxRecDepth 100000 in
set_option maxHeartbeats 4000000 in
theorem note_any {w : World} {g : Nat} {S : Gp} {P : Pl} (h : PG w g S P) (hI : TabOk S) (i : Nat) (hi : i < S.n) (v : V) (hv : okV v) :
    Calls Tryz.prog 62 #[.pointer (some ⟨g, 0, none⟩), .int .i64 (i : Int), v.val] w fun e w' => e = .returned (.tuple #[]) ∧ Chg (fun k o => P.B ≤ k ∧ isMp o) w w' ∧ ∃ O c, VT P.B w' P.mb O c (fun s => if s = v.s then noteR S.n i v (S.tab s) else S.tab s) := by
  have hi5 : i < 5 := by have := hI.n5; omega
  have hba : Below w.heap.size w (w.alloc (.cells v.cells 75)) := below_row0 w _
  have hP1 := h.below hba
  have hav : AV 75 (w.alloc (.cells v.cells 75)) w.heap.size v := AV.fresh 75 w v
  obtain ⟨d0, d1, d2⟩ := hav.all
  have HC := Lib.hid (chosen_any hP1 hI v.s hv.s)
  have HAV := Lib.hid hav
  have HP := Lib.hid h
  have HP1 := Lib.hid hP1
  have HI := Lib.hid hI
  have HBa := Lib.hid hba
  by_cases hbig : bigR S.n (S.tab v.s) = true
  · have hcho : (choOf S v.s).2 = true := by
      obtain ⟨u, m, hp, hb⟩ := bigR_iff.1 hbig
      rw [hI.big _ _ _ hp hb]
    have HT := Lib.hid (show (fun s => if s = v.s then noteR S.n i v (S.tab s) else S.tab s) = S.tab from by
      funext s
      by_cases e : s = v.s
      · rw [if_pos e, e]; unfold noteR; rw [if_pos hbig]
      · rw [if_neg e])
    rw [hcho] at HC
    clear h hI hba hP1 hav hbig hcho
    obtain ⟨vs, vb, vx⟩ := v
    go_enter Tryz.func62, Tryz.ntmps62
    go_wp2_with (go_at_call 18; refine HC.out.mono ?_; rintro e w' ⟨rfl, k1⟩; have K1 := Lib.hid k1; clear k1)
    (try simp only [Exit.inBlock, Exit.then])
    refine bodyPost_ret (results_none rfl _ _ _) rfl ?_
    have hb2 := HBa.out.trans (K1.out.mono HBa.out.size)
    refine ⟨rfl, Chg.of_below hb2, P.O, P.c, ?_⟩
    rw [HT.out]
    exact (HP.out.below hb2).tab
  · have hbig' : bigR S.n (S.tab v.s) = false := by simpa using hbig
    have hcho : (choOf S v.s).2 = false := by
      rw [choNo]
      intro p hp hb
      rw [bigR_iff.2 ⟨p.1, p.2, hp, hb⟩] at hbig'
      cases hbig'
    rw [hcho] at HC
    cases hO : blkO P.O v.s with
    | some b =>
      clear h hI hba hP1 hav hbig hcho
      obtain ⟨vs, vb, vx⟩ := v
      go_enter Tryz.func62, Tryz.ntmps62
      go_wp2_with (go_at_call 18; refine HC.out.mono ?_; rintro e w2 ⟨rfl, k1⟩)
      have HK1 := Lib.hid k1
      have hP2 := HP1.out.below k1
      have c1 := hP2.c1
      have hs : i64 vs := hv.s
      have hlook : ∀ n, (Instr.lookup 54 (.map (some P.mb)) (.int .i64 vs) false).run Tryz.prog (w2.drewN n) = .ok (.map (some b)) (w2.drewN n) := fun n => by
        have := (hP2.tab.om.of_block (w' := w2.drewN n) rfl).look hs
        rw [show blkO P.O vs = some b from hO] at this
        exact this
      have hi0 : ¬ (i : Int) < 0 := by omega
      obtain ⟨e0, e1, e2⟩ := (HAV.out.below k1).all
      simp only at e0 e1 e2
      clear k1 d0 d1 d2
      have hq := fun W => eq_nil (some b) W
      simp only [Option.isNone_some] at hq
      obtain ⟨hbm, L, cl, hL, hrow⟩ := hP2.tab.row vs b hO
      have HL2 := Lib.hid (fun n => show IM (w2.drewN n) b L cl from hL.of_block rfl)
      have HRow := Lib.hid hrow
      clear hL hrow hP2 HC
      go_quiet (fail)
      go_wp2_with (at_range; rw [shl_bit i hi5]; refine wpList_range_im _ rfl _ rfl b L cl rfl (HL2.out _) ?_; intro w4 hrg4 hb4 hs4)
      have hB3 : Below w.heap.size w (w2.drewN nq) := below_drewN (HBa.out.trans (HK1.out.mono HBa.out.size)) nq
      have hP3 := HP.out.below hB3
      have hV3 : AV 75 (w2.drewN nq) w.heap.size ⟨vs, vb, vx⟩ := HAV.out.below (below_drewN HK1.out nq)
      have HL := Lib.hid (HL2.out nq)
      have hr4 : Rgi w4 b w2.heap.size L cl #[] := hrg4
      have hY : (w2.drewN nq).heap.size = w2.heap.size := rfl
      clear hlook e0 e1 e2 c1 HL2 hrg4 hs4 HK1 HP1
      generalize w2.heap.size = Y at hr4 hY ⊢
      generalize w2.drewN nq = w3 at hB3 hP3 hV3 HL hb4 hY
      have HB3 := Lib.hid hB3
      have HP3 := Lib.hid hP3
      have HV3 := Lib.hid hV3
      have HR4 := Lib.hid hr4
      have HB4 := Lib.hid hb4
      clear hB3 hP3 hV3 hr4 hb4
      generalize hZ : w.heap.size = Z at *
      go_loopw [] (fun wr => ∃ seen, Rgi wr b Y (wayE i seen L) cl seen ∧ Chg (fun k _ => k = b) w3 wr ∧ AV 75 wr Z ⟨vs, vb, vx⟩) (fun wr => wr.rangeLeft b Y)
      case atStart => exact ⟨#[], by rw [way_none]; exact HR4.out, Chg.of_below HB4.out, HV3.out.below HB4.out⟩
      case round =>
        obtain ⟨seen, hrg, hch, hav⟩ := hrel
        have HR := Lib.hid hrg
        have HCh := Lib.hid hch
        have HAv := Lib.hid hav
        clear hrg hch hav HR4 HB4
        go_wp2_with (first | (at_next; go_loud (refine wpList_next_im _ rfl _ rfl b Y (wayE i seen L) cl seen rfl HR.out ?_ ?_)) | go_in)
        · intro hdone
          have HD := Lib.hid (way_all (i := i) (seen := seen) (L := L) (fun e he => by have := hdone e he; simpa using this))
          clear hdone
          have hIM : IM wr.drew b (wayE i seen L) cl := HR.out.im.of_block rfl
          have hvd : AV 75 wr.drew Z ⟨vs, vb, vx⟩ := HAv.out.of_block rfl
          have hmk : mskE (wayE i seen L) ⟨vs, vb, vx⟩ < 32 := msk_lt (fun e he => by
            have hx := strip_lt (i := i) hi5 (HI.out.t0 vs) (e.v, e.m) (by rw [← HRow.out, ← row_str, ← HD.out]; exact mem_row he)
            exact hx.1) _
          obtain ⟨st, w6, hrun6, heq6, him6, hst6⟩ := hIM.entry hv
          have hl0 := hIM.look hv
          have hl6 := him6.look hv
          rw [inE_msk] at hl6
          have hrun7 := hst6 w6 (addB (mskE (wayE i seen L) ⟨vs, vb, vx⟩) i) him6
          have hv6 : AV 75 w6 Z ⟨vs, vb, vx⟩ := by
            show w6.heap[Z]? = _
            rw [heq6]
            exact (heap_setBlock_other hIM.1 _ (fun e => (HR.out.ne_cells HAv.out).2 e.symm)).trans hvd
          have him7 : IM (setBlock w6 b (.map ((setE' (inE (wayE i seen L) cl ⟨vs, vb, vx⟩).1 ⟨vs, vb, vx⟩ (addB (mskE (wayE i seen L) ⟨vs, vb, vx⟩) i)).map En.ent).toArray (inE (wayE i seen L) cl ⟨vs, vb, vx⟩).2)) b _ _ := ⟨heap_setBlock_same him6.1 _, him6.2.set _ _⟩
          have hrow7 := row_put hIM.2 i ⟨vs, vb, vx⟩
          have hch7 : Chg (fun k _ => k = b) w3 (setBlock w6 b (.map ((setE' (inE (wayE i seen L) cl ⟨vs, vb, vx⟩).1 ⟨vs, vb, vx⟩ (addB (mskE (wayE i seen L) ⟨vs, vb, vx⟩) i)).map En.ent).toArray (inE (wayE i seen L) cl ⟨vs, vb, vx⟩).2)) :=
            ((HCh.out.below (w2 := wr.drew) ((Below.refl _ _).drew)).same (by rw [heq6]; exact Chg.of_map hIM.1 (fun _ _ => rfl))).same (Chg.of_map him6.1 (fun _ _ => rfl))
          have hrowT : rowE (setE' (inE (wayE i seen L) cl ⟨vs, vb, vx⟩).1 ⟨vs, vb, vx⟩ (addB (mskE (wayE i seen L) ⟨vs, vb, vx⟩) i)) = noteR S.n i ⟨vs, vb, vx⟩ (S.tab vs) := by
            rw [hrow7, HD.out, row_str, HRow.out]
            unfold noteR
            rw [if_neg (by rw [hbig']; simp)]
          have HVT := Lib.hid (HP3.out.tab.turn (T' := fun s => if s = vs then noteR S.n i ⟨vs, vb, vx⟩ (S.tab s) else S.tab s) hch7 hO him7 (by rw [hrowT, if_pos rfl]) (fun s e => if_neg e))
          have HCF := Lib.hid ((Chg.of_below (p := fun k o => P.B ≤ k ∧ isMp o) (by rw [hZ]; exact HB3.out)).trans hch7 (fun k o hk e => by
            obtain ⟨-, L0, c0, hi0, -⟩ := HP.out.tab.row vs b hO
            rw [e, hi0.1] at hk
            injection hk with hk
            rw [← hk]
            exact ⟨by rw [e]; exact HP.out.tab.los vs b hO, trivial⟩))
          obtain ⟨c0, c1, c2⟩ := hvd.all
          obtain ⟨f0, f1, f2⟩ := hv6.all
          rw [← add_bit _ hmk i hi5] at hrun7
          generalize setBlock w6 b (.map ((setE' (inE (wayE i seen L) cl ⟨vs, vb, vx⟩).1 ⟨vs, vb, vx⟩ (addB (mskE (wayE i seen L) ⟨vs, vb, vx⟩) i)).map En.ent).toArray (inE (wayE i seen L) cl ⟨vs, vb, vx⟩).2) = w7 at hrun7 HVT HCF
          clear him7 hrow7 hch7 hrowT hst6 heq6 him6 hIM hvd hv6 hmk
          generalize mskE (wayE i seen L) ⟨vs, vb, vx⟩ = mk at hrun6 hrun7 hl0 hl6
          dsimp only [V.val, goInt] at hl0 hl6 hrun6 hrun7
          simp only at c0 c1 c2 f0 f1 f2
          go_wp2
          go_region
          all_goals (go_end0; exact ⟨rfl, HCF.out, P.O, P.c, HVT.out⟩)
        · intro e w5 he hes hrg5 hfb5 hs5 hen
          have hes' : seen.contains e.t = false := by simpa using hes
          obtain ⟨e', he', -, -, hee⟩ := way_mem he
          have heL : e ∈ L := by rw [hee hes']; exact he'
          have hm := (HI.out.t0 vs).lt (e.v, e.m) (by rw [← HRow.out]; exact mem_row heL)
          have hokE := hrg5.im.2.ok e he
          have hba : Below w5.heap.size w5 (w5.alloc (.cells e.v.cells 75)) := below_row0 w5 _
          have hrg6 := hrg5.of_blocks (hba.block _ hrg5.im.lt) (hba.block _ hrg5.lt)
          have hav6 : AV 75 (w5.alloc (.cells e.v.cells 75)) w5.heap.size e.v := AV.fresh 75 w5 e.v
          have havZ : AV 75 (w5.alloc (.cells e.v.cells 75)) Z ⟨vs, vb, vx⟩ := (HAv.out.of_block (hfb5.block _ HAv.out.lt (fun e => (HR.out.ne_cells HAv.out).1 e.symm) (by simp))).below hba
          obtain ⟨w7, hrun7, him7, heq7⟩ := hrg6.im.store he (clr e.m i)
          have hlk := him7.look hokE
          rw [msk_set he] at hlk
          obtain ⟨d0, d1, d2⟩ := hav6.all
          rw [← clr_bit e.m hm.1 i hi5] at hrun7
          clear hs5
          have keepC : ∀ (k : Nat) (cs : Array Value) (t : TypeId), (w5.alloc (.cells e.v.cells 75)).heap[k]? = some (Obj.cells cs t (0, 0)) → w7.heap[k]? = some (Obj.cells cs t (0, 0)) := fun k cs t hk => by
            rw [heq7]
            exact (heap_setBlock_other hrg6.im.1 _ (fun e => (hrg6.ne_cells hk).2 e.symm)).trans hk
          have hav7 : AV 75 w7 w5.heap.size e.v := keepC _ _ _ hav6
          have havZ7 : AV 75 w7 Z ⟨vs, vb, vx⟩ := keepC _ _ _ havZ
          obtain ⟨c0, c1, c2⟩ := hav7.all
          have hch6 : Chg (fun k _ => k = b) w3 (w5.alloc (.cells e.v.cells 75)) := (HCh.out.trans (Chg.of_fb (p := fun k _ => k = Y) hfb5 (fun _ _ => rfl)) (fun k _ hk e => by have := lt_of hk; omega)).below hba
          have hch7 : Chg (fun k _ => k = b) w3 w7 := hch6.same (by rw [heq7]; exact Chg.of_map hrg6.im.1 (fun _ _ => rfl))
          have hr7 : w7.heap[Y]? = (w5.alloc (.cells e.v.cells 75)).heap[Y]? := by
            rw [heq7]; exact heap_setBlock_other hrg6.im.1 _ hrg6.ne
          have hrg7 : Rgi w7 b Y (setE' (wayE i seen L) e.v (clr e.m i)) cl (seen.push e.t) := hrg6.store him7 hr7 (fun x hx => by obtain ⟨y, hy, -, ht⟩ := setE_mem hx; exact ⟨y, hy, ht⟩)
          have HRl := Lib.hid HR.out.left
          have HLf := Lib.hid (left_push he hes')
          by_cases hz : clr e.m i = 0
          · obtain ⟨w8, hrun8, him8, heq8⟩ := him7.drop hokE 0
            rw [hz] at hlk
            have hset := way_del (i := i) (seen := seen) HL.out.2 heL hes' hz (clr e.m i)
            have hch8 : Chg (fun k _ => k = b) w3 w8 := hch7.same (by rw [heq8]; exact Chg.of_map him7.1 (fun _ _ => rfl))
            have hr8 : w8.heap[Y]? = w7.heap[Y]? := by rw [heq8]; exact heap_setBlock_other him7.1 _ hrg7.ne
            have havZ8 : AV 75 w8 Z ⟨vs, vb, vx⟩ := by
              show w8.heap[Z]? = _
              rw [heq8]
              exact (heap_setBlock_other him7.1 _ (fun e => (hrg7.ne_cells havZ7).2 e.symm)).trans havZ7
            have hrg8 := hrg7.store him8 hr8 (fun x hx => ⟨x, (List.mem_filter.1 hx).1, rfl⟩)
            have hlt : leftE ((setE' (wayE i seen L) e.v (clr e.m i)).filter fun x => !decide (x.v = e.v)) (seen.push e.t) ≤ leftE (wayE i seen L) (seen.push e.t) := by
              have hle : leftE (setE' (wayE i seen L) e.v (clr e.m i)) (seen.push e.t) = leftE (wayE i seen L) (seen.push e.t) := by
                have : ∀ L : List En, leftE L (seen.push e.t) = (L.map En.t).countP fun t => !(seen.push e.t).contains t := fun L => by unfold leftE; rw [List.countP_map]; rfl
                rw [this, this, (setE_map _ _ _).2]
              rw [← hle]
              exact List.Sublist.countP_le (List.filter_sublist)
            rw [hset] at hrg8 hlt
            have HR8 := Lib.hid hrg8
            have HC8 := Lib.hid hch8
            have HZ8 := Lib.hid havZ8
            have HLt := Lib.hid hlt
            clear hrg8 hch8 havZ8 hlt hset hr8 him8 heq8 hch7 hrg7 him7 heq7 havZ7 hav7 keepC hch6 hrg6 hav6 havZ hfb5 hrg5 hr7 hz he he' hee heL hm hes hes' hba hokE
            dsimp only [V.val, V.cells] at hrun7 hrun8 hlk
            go_wp2
            go_roundw
            case rel => exact ⟨seen.push e.t, HR8.out, HC8.out, HZ8.out⟩
            case measure => rw [HR8.out.left, HRl.out]; exact Nat.lt_of_le_of_lt HLt.out HLf.out
          · have hnz : ((clr e.m i : Nat) : Int) ≠ 0 := by omega
            have hset := way_set (i := i) (seen := seen) HL.out.2 heL hes' hz
            have hle : leftE (setE' (wayE i seen L) e.v (clr e.m i)) (seen.push e.t) = leftE (wayE i seen L) (seen.push e.t) := by
              have : ∀ L : List En, leftE L (seen.push e.t) = (L.map En.t).countP fun t => !(seen.push e.t).contains t := fun L => by unfold leftE; rw [List.countP_map]; rfl
              rw [this, this, (setE_map _ _ _).2]
            rw [hset] at hrg7 hle
            have HR8 := Lib.hid hrg7
            have HC8 := Lib.hid hch7
            have HZ8 := Lib.hid havZ7
            have HLt := Lib.hid hle
            have hbn : (((clr e.m i : Nat) : Int) == 0) = false := by simpa using hnz
            clear hset hle hch7 hrg7 him7 heq7 havZ7 hav7 keepC hch6 hrg6 hav6 havZ hfb5 hrg5 hr7 hz he he' hee heL hm hes hes' hba hokE
            dsimp only [V.val, V.cells] at hrun7 hlk
            go_wp2
            go_roundw
            case rel => exact ⟨seen.push e.t, HR8.out, HC8.out, HZ8.out⟩
            case measure => rw [HR8.out.left, HRl.out, HLt.out]; exact HLf.out
    | none =>
      clear h hI hba hP1 hav hbig hcho
      obtain ⟨vs, vb, vx⟩ := v
      go_enter Tryz.func62, Tryz.ntmps62
      go_wp2_with (go_at_call 18; refine HC.out.mono ?_; rintro e w2 ⟨rfl, k1⟩)
      have HK1 := Lib.hid k1
      have hP2 := HP1.out.below k1
      have c1 := hP2.c1
      have hs : i64 vs := hv.s
      have hO' : blkO P.O vs = none := hO
      have hlook : ∀ n, (Instr.lookup 54 (.map (some P.mb)) (.int .i64 vs) false).run Tryz.prog (w2.drewN n) = .ok (.map none) (w2.drewN n) := fun n => by
        have := (hP2.tab.om.of_block (w' := w2.drewN n) rfl).look hs
        rw [hO'] at this
        exact this
      have hi0 : ¬ (i : Int) < 0 := by omega
      obtain ⟨e0, e1, e2⟩ := (HAV.out.below k1).all
      simp only at e0 e1 e2
      clear k1 d0 d1 d2
      have hq := fun W => eq_nil none W
      simp only [Option.isNone_none] at hq
      clear hP2 HC c1
      have hmm := @run_makeMap Tryz.prog
      have hcc : w2.cell? ⟨g, 1, none⟩ = some (.map (some P.mb)) := (HP1.out.below HK1.out).c1
      go_quiet (fail)
      go_wp2
      have hB3 : Below w.heap.size w (w2.drewN nq) := below_drewN (HBa.out.trans (HK1.out.mono HBa.out.size)) nq
      rw [shl_bit i hi5]
      have hba4 : Below (w2.drewN nq).heap.size (w2.drewN nq) ((w2.drewN nq).alloc (.map #[] 0)) := below_row0 _ _
      have hB4 : Below w.heap.size w ((w2.drewN nq).alloc (.map #[] 0)) := hB3.trans (hba4.mono hB3.size)
      have hB4' : Below w.heap.size w ((w2.drewN nq).alloc (.map #[] 0)).drew := hB4.drew
      have hP4 := HP.out.below hB4'
      have hV4 : AV 75 ((w2.drewN nq).alloc (.map #[] 0)).drew w.heap.size ⟨vs, vb, vx⟩ := ((HAV.out.below (below_drewN HK1.out nq)).below hba4).of_block rfl
      have hIM4 : IM ((w2.drewN nq).alloc (.map #[] 0)).drew w2.heap.size [] 0 := (IM.made (w2.drewN nq)).of_block rfl
      obtain ⟨w6, hrun6, hom6, heq6⟩ := hP4.tab.om.store hs hO' w2.heap.size
      have hgc := hP4.c1
      obtain ⟨f0, f1, f2⟩ := hV4.all
      simp only at f0 f1 f2
      have hlt2 : w.heap.size ≤ w2.heap.size := hB3.size
      have hmb : P.mb < w.heap.size := HP.out.tab.om.lt
      have hIM6 : IM w6 w2.heap.size [] 0 := hIM4.of_block (by rw [heq6]; exact heap_setBlock_other hP4.tab.om.1 _ (by omega))
      have hV6 : AV 75 w6 w.heap.size ⟨vs, vb, vx⟩ := by
        show w6.heap[w.heap.size]? = _
        rw [heq6]
        exact (heap_setBlock_other hP4.tab.om.1 _ (by omega)).trans hV4
      have hch6 : Chg (fun k _ => k = P.mb) w w6 := (Chg.of_below (by exact hB4')).same (by rw [heq6]; exact Chg.of_map hP4.tab.om.1 (fun _ _ => rfl))
      have HIM := Lib.hid hIM6
      have HV6 := Lib.hid hV6
      have HCh := Lib.hid hch6
      have HOm := Lib.hid hom6
      clear hIM6 hV6 hch6 hom6 heq6 hIM4 hV4 hP4 hB4 hB4' hba4 hB3 hcc hlook hmm HP1 HK1 e0 e1 e2
      go_region
      generalize hZ : w.heap.size = Z at *
      generalize hY : w2.heap.size = Y at *
      go_wp2_with (at_range; refine wpList_range_im _ rfl _ rfl Y [] 0 rfl HIM.out ?_; intro w7 hrg7 hb7 hs7)
      have HB7 := Lib.hid hb7
      have HR7 := Lib.hid hrg7
      clear hs7 hb7 hrg7
      go_frame
      go_loopw [] (fun wr => w7 = wr) (fun _ => 0)
      case atStart => rfl
      case round =>
        subst hrel
        go_wp2_with (first | (at_next; refine wpList_next_im _ rfl _ rfl Y w6.heap.size [] 0 #[] rfl HR7.out ?_ ?_) | go_in)
        · have hIM : IM w7.drew Y [] 0 := HR7.out.im.of_block rfl
          have hvd : AV 75 w7.drew Z ⟨vs, vb, vx⟩ := (HV6.out.below HB7.out).of_block rfl
          obtain ⟨st, w8, hrun8, heq8, him8, hst8⟩ := hIM.entry hv
          have hl0 := hIM.look hv
          have hl8 := him8.look hv
          rw [inE_msk] at hl8
          have hmk : mskE ([] : List En) ⟨vs, vb, vx⟩ < 32 := by rw [msk_none (fun e he => by cases he)]; decide
          have hrun9 := hst8 w8 (addB (mskE ([] : List En) ⟨vs, vb, vx⟩) i) him8
          have hv8 : AV 75 w8 Z ⟨vs, vb, vx⟩ := by
            show w8.heap[Z]? = _
            rw [heq8]
            exact (heap_setBlock_other hIM.1 _ (fun e => (HR7.out.ne_cells (HV6.out.below HB7.out)).2 e.symm)).trans hvd
          have him9 : IM (setBlock w8 Y (.map ((setE' (inE [] 0 ⟨vs, vb, vx⟩).1 ⟨vs, vb, vx⟩ (addB (mskE ([] : List En) ⟨vs, vb, vx⟩) i)).map En.ent).toArray (inE [] 0 ⟨vs, vb, vx⟩).2)) Y _ _ := ⟨heap_setBlock_same him8.1 _, him8.2.set _ _⟩
          have hrow9 := row_put hIM.2 i ⟨vs, vb, vx⟩
          have hchY : Chg (fun k _ => k = Y) w6 (setBlock w8 Y (.map ((setE' (inE [] 0 ⟨vs, vb, vx⟩).1 ⟨vs, vb, vx⟩ (addB (mskE ([] : List En) ⟨vs, vb, vx⟩) i)).map En.ent).toArray (inE [] 0 ⟨vs, vb, vx⟩).2)) :=
            (((Chg.of_below HB7.out).below (w2 := w7.drew) ((Below.refl _ _).drew)).same (by rw [heq8]; exact Chg.of_map hIM.1 (fun _ _ => rfl))).same (Chg.of_map him8.1 (fun _ _ => rfl))
          have hch9 := HCh.out.trans hchY (fun k o hk e => by have := lt_of hk; omega)
          have hno := HP.out.tab.no vs hO'
          have hrowT : rowE (setE' (inE [] 0 ⟨vs, vb, vx⟩).1 ⟨vs, vb, vx⟩ (addB (mskE ([] : List En) ⟨vs, vb, vx⟩) i)) = noteR S.n i ⟨vs, vb, vx⟩ (S.tab vs) := by
            rw [hrow9]
            unfold noteR
            rw [if_neg (by rw [hbig']; simp), hno]; rfl
          have hom9 : OM (setBlock w8 Y (.map ((setE' (inE [] 0 ⟨vs, vb, vx⟩).1 ⟨vs, vb, vx⟩ (addB (mskE ([] : List En) ⟨vs, vb, vx⟩) i)).map En.ent).toArray (inE [] 0 ⟨vs, vb, vx⟩).2)) P.mb (P.O ++ [⟨vs, Y, P.c⟩]) (P.c + 1) := ⟨hchY.keep HOm.out.1 (fun e => by omega), HOm.out.2⟩
          have HVT := Lib.hid (HP.out.tab.first (T' := fun s => if s = vs then noteR S.n i ⟨vs, vb, vx⟩ (S.tab s) else S.tab s) hch9 hO' (by omega) hom9 him9 (by rw [hrowT, if_pos rfl]) (fun s e => if_neg e))
          have HCF := Lib.hid (hch9.mono (p' := fun k o => k = P.mb) (fun _ _ h => h))
          have HCG := Lib.hid ((Chg.refl (fun k o => P.B ≤ k ∧ isMp o) w).trans HCF.out (fun k o hk e => by
            rw [e, HP.out.tab.om.1] at hk
            injection hk with hk
            rw [← hk]
            exact ⟨by rw [e]; exact HP.out.tab.lo, trivial⟩))
          obtain ⟨c0, c1, c2⟩ := hvd.all
          obtain ⟨g0, g1, g2⟩ := hv8.all
          rw [← add_bit _ hmk i hi5] at hrun9
          generalize setBlock w8 Y (.map ((setE' (inE [] 0 ⟨vs, vb, vx⟩).1 ⟨vs, vb, vx⟩ (addB (mskE ([] : List En) ⟨vs, vb, vx⟩) i)).map En.ent).toArray (inE [] 0 ⟨vs, vb, vx⟩).2) = w9 at hrun9 HVT HCG
          clear him9 hrow9 hch9 hchY hrowT hst8 heq8 him8 hIM hvd hv8 hom9 hno HCF hmk
          generalize mskE ([] : List En) ⟨vs, vb, vx⟩ = mk at hrun8 hrun9 hl0 hl8
          dsimp only [V.val, goInt] at hl0 hl8 hrun8 hrun9
          simp only at c0 c1 c2 g0 g1 g2
          go_wp2
          go_region
          all_goals (go_end0; exact ⟨rfl, HCG.out, _, _, HVT.out⟩)
end Go.Proofs.YtkcbmkedhipgeaaGreatDoor
