/-
  The document's own Crash, counted, Sync and Read (weirkeepref07), by contracts.
-/
import Derived.Test.YtacdbfaoeioflaaGreatDoorRlittle
import Derived.BigRegion
namespace Go.Proofs.YtacdbfaoeioflaaGreatDoor
open Go.RowKit

theorem scells_set : ∀ (l : List (List UInt8)) (i : Nat) (x : List UInt8), scells (l.set i x) = (scells l).set i (.string (str x))
  | [], i, x => by simp [scells]
  | y :: l, 0, x => by simp [scells]
  | y :: l, i + 1, x => by
    have := scells_set l i x
    unfold scells at this ⊢
    rw [List.set_cons_succ, List.flatMap_cons, List.flatMap_cons, this]
    rfl
theorem scells_length (l : List (List UInt8)) : (scells l).length = l.length := by unfold scells; induction l with | nil => rfl | cons x l ih => rw [List.flatMap_cons, List.length_append, ih]; simp; omega
/-- An element of a row of one-cell elements is stored. -/
theorem owns_set {w : World} {base e n cap g : Nat} {xs : List Value} (h : w.ownsRow base e 1 (.slice (some ⟨g, 0, none⟩) n cap) n xs) (i : Nat) (u : Value) : (w.setCell ⟨g, i, none⟩ u).ownsRow base e 1 (.slice (some ⟨g, 0, none⟩) n cap) n (xs.set i u) := by
  refine ⟨by simpa using h.1, ?_⟩
  rcases h.2 with ⟨hv, _⟩ | ⟨g', cap', cur, hv, hb, hg, hn, hm, hs, ht⟩
  · cases hv
  · cases hv
    refine .inr ⟨g, cap, cur.setIfInBounds i u, rfl, hb, by simp [World.setCell, Array.getElem?_modify, hg], hn, hm, by simpa using hs, ?_⟩
    rw [Array.toList_setIfInBounds, List.take_set, ht]

/-- A sector of what lasts is another one. -/
theorem RBv.setSec {w : World} {b : Nat} {s : St} {g n cap : Nat} {vw : Value} (h : RBv w b s (.slice (some ⟨g, 0, none⟩) n cap) vw) (hn : n = s.is.length) (i : Nat) (x : List UInt8) :
    RBv (w.setCell ⟨g, i, none⟩ (.string (str x))) b { s with is := s.is.set i x } (.slice (some ⟨g, 0, none⟩) n cap) vw := by
  subst hn
  refine ⟨(h.row.setOther (fun e => h.neI (by rw [e]; rfl)) _).congr fun o _ => ?_, ?_, owns_kept h.wt fun k hk => Below.heap_setCell _ _ _ _ (fun e => h.neIW rfl (by rw [hk]; exact congrArg some e))⟩
  · unfold rf; rfl
  · show World.ownsRow _ 0 _ 1 _ (s.is.set i x).length (scells (s.is.set i x))
    rw [scells_set, List.length_set]
    exact owns_set h.is _ _

theorem share_rem (keep j : Nat) : ((keep : Int) / 2 ^ (4 * (j % 16))).tmod 16 = (share keep j : Int) := by
  have e : (keep : Int) / 2 ^ (4 * (j % 16)) = ((keep >>> (4 * (j % 16)) : Nat) : Int) := by
    rw [Nat.shiftRight_eq_div_pow]; push_cast; rfl
  rw [e]
  exact Int.ofNat_tmod _ 16
theorem mix_str {k : Nat} {new old : List UInt8} (ho : old.length = 32) : (str new).extract 0 k ++ (str old).extract k 32 = str (mix k new old) := by
  rw [str_extract, str_extract, str_append, List.drop_zero, List.take_of_length_le (Nat.le_of_eq ho)]
  rfl

theorem mix_str15 {new old : List UInt8} (ho : old.length = 32) : (str new).extract 0 32 = str (mix 32 new old) := by
  rw [str_extract, List.drop_zero]
  unfold mix
  rw [List.drop_of_length_le (Nat.le_of_eq ho), List.append_nil]
theorem RBv.setWaits {w : World} {b : Nat} {s : St} {vi vw u : Value} {ws : List Wr} (hr : w.rowIs b 61 6 (rf s vi vw)) (hi : w.ownsRow 0 9 1 vi s.is.length (scells s.is)) (ho : w.ownsRow 0 100 2 u ws.length (ws.flatMap rcells)) : RBv (w.setCell ⟨b, 1, none⟩ u) b { s with wait := ws } vi u :=
  ⟨(hr.set 1 u).congr fun o _ => by unfold rf; by_cases e : o = 1 <;> simp [e], owns_kept hi fun g hg => Below.heap_setCell _ _ _ _ (fun e => owns_ne hi hr (by decide) (by rw [hg]; exact congrArg some e)), owns_kept ho fun g hg => Below.heap_setCell _ _ _ _ (fun e => owns_ne ho hr (by decide) (by rw [hg]; exact congrArg some e))⟩

set_option maxRecDepth 100000 in
set_option maxHeartbeats 4000000 in
theorem rcrash_any (b : Nat) (s : St) (F : Nat → Prop) (keep : Nat) (w : World) (h : RB w b s F) (hg : Good s) :
    Calls Tryz.prog 24 #[.pointer (some ⟨b, 0, none⟩), .int .u64 keep] w fun e w' => e = .returned (.tuple #[]) ∧ Goes F w w' (RB w' b (crash s keep)) := by
  have HP0 := Lib.hid h
  have hbF := h.mem
  obtain ⟨vi, vw, h, hF⟩ := h.v
  obtain ⟨-, -, c2, -⟩ := h.cells
  have hbl := h.row.lt
  cases hgo : s.gone
  · have e1 : crash s keep = { { { { s with is := done (part keep) s.wait s.is s.wait.length } with wait := [] } with gone := true } with left := 0 } := by unfold crash; rw [if_neg (by simp [hgo])]
    rw [e1]
    rw [hgo] at c2
    obtain ⟨⟨A, c, rfl, hc1, hc2, -⟩, ⟨B, d, rfl, hd1, hd2, hwt⟩⟩ := h.shapes
    have H0 := Lib.hid h
    have HG := Lib.hid hg
    have HF := Lib.hid hF
    have HWT := Lib.hid hwt
    clear h hg hF hwt e1
    unfold maxLen at hc2 hd2
    go_enter Tryz.func24, Tryz.ntmps24
    go_wp2
    go_loopw [4] (fun jv wr => ∃ j : Nat, j ≤ s.wait.length ∧ jv = .int .i64 j ∧ RBv wr b (at' s (part keep) j) (.slice A s.is.length c) (.slice B s.wait.length d) ∧ Keeps F w wr) (fun jv _ => s.wait.length - (intOf jv).toNat)
    case atStart => exact ⟨0, Nat.zero_le _, rfl, H0.out, Keeps.refl _ _⟩
    case round =>
      obtain ⟨j, hj, rfl, hP, hK⟩ := hrel
      have P1 := Lib.hid hP
      have K1 := Lib.hid hK
      have d1 := hP.cells.2.1
      clear hP hK H0
      by_cases hlt : j < s.wait.length
      · have hlI : (j : Int) < (s.wait.length : Int) := by omega
        obtain ⟨x, hx⟩ : ∃ x, s.wait[j]? = some x := ⟨_, List.getElem?_eq_getElem hlt⟩
        obtain ⟨hxi, hx32⟩ := HG.out.wt x (List.mem_of_getElem? hx)
        obtain ⟨⟨A1, c1, he1, -, -, hcI⟩, ⟨B1, c2', he2, -, -, hcW⟩⟩ := P1.out.shapes
        injection he1 with he1
        injection he2 with he2
        subst he1 he2
        obtain ⟨gw, rfl, hgw, w0, w1⟩ := hcW j x hx
        have hdl : (done (part keep) s.wait s.is j).length = s.is.length := done_length _ _ _ _
        have hxd : x.i < (done (part keep) s.wait s.is j).length := by rw [hdl]; exact hxi
        have hsec := done_sec (f := part keep) HG.out.sec HG.out.wt j x.i hxi
        have hold : (done (part keep) s.wait s.is j)[x.i]? = some ((done (part keep) s.wait s.is j).getD x.i []) := by rw [List.getD_eq_getElem?_getD, List.getElem?_eq_getElem hxd]; rfl
        obtain ⟨gi, rfl, hgi, i0⟩ := hcI x.i _ hold
        have HDS := Lib.hid (show (at' s (part keep) (j + 1)) = { at' s (part keep) j with is := (done (part keep) s.wait s.is j).set x.i (mix (part keep j) x.b ((done (part keep) s.wait s.is j).getD x.i [])) } from by unfold at'; rw [done_succ hx])
        have HDL := Lib.hid hdl
        generalize hod : (done (part keep) s.wait s.is j).getD x.i [] = old at hsec i0 HDS
        have hsh := share_rem keep j
        have hpl : part keep j = if share keep j = 15 then 32 else 2 * share keep j := rfl
        have hsl := share_lt keep j
        generalize share keep j = t at hsh hpl hsl
        have ht0 : (0 : Int) ≤ (t : Int) := by omega
        have ht1 : (t : Int) < 16 := by omega
        have hj0 : (0 : Int) ≤ (j : Int) := by omega
        have hx0 : (0 : Int) ≤ (x.i : Int) := by omega
        have hx1 : (x.i : Int) < (s.is.length : Int) := by omega
        have hz1 : (str x.b).size = 32 := by rw [str_size, hx32]
        have hz2 : (str old).size = 32 := by rw [str_size, hsec]
        have hb1 : Below wr.heap.size wr (wr.alloc (.cells #[.int .i64 (x.i : Int), .string (str x.b)] 100)) := (Below.refl _ _).alloc (Nat.le_refl _) _
        have P2 := Lib.hid (P1.out.below hb1)
        have K2 := Lib.hid (K1.out.then_below hb1)
        have f0 := P2.out.cells.1
        have f3 : (wr.alloc (.cells #[.int .i64 (x.i : Int), .string (str x.b)] 100)).cell? ⟨gi, x.i, none⟩ = some (.string (str old)) := (hb1.cell (p := ⟨gi, x.i, none⟩) hgi).trans i0
        have fz : (wr.alloc (.cells #[.int .i64 (x.i : Int), .string (str x.b)] 100)).frozen? ⟨gi, x.i, none⟩ = false := by
          obtain ⟨cur, hcur⟩ := owns_type P2.out.is rfl
          unfold World.frozen?; simp only [hcur]; simp
        have hr2 := World.rowIs_alloc wr #[.int .i64 (x.i : Int), .string (str x.b)] 100 (fun q => if q = 0 then .int .i64 (x.i : Int) else .string (str x.b)) (fun q hq => by match q, hq with | 0, _ | 1, _ => rfl)
        have f1 := hr2.cell (i := 0) (by simp)
        have f2 := hr2.cell (i := 1) (by simp)
        simp only [if_true, Nat.one_ne_zero, if_false] at f1 f2
        have HX32 := Lib.hid hx32
        have HSEC := Lib.hid hsec
        clear hx hx32 hcI hcW hdl hxd hold hod hsec i0 hb1 hr2
        have HGI := Lib.hid (HF.out gi (.inr (.inl rfl)))
        have fin : ∀ v, v = str (mix (part keep j) x.b old) → RBv ((wr.alloc (.cells #[.int .i64 (x.i : Int), .string (str x.b)] 100)).setCell ⟨gi, x.i, none⟩ (.string v)) b (at' s (part keep) (j + 1)) (.slice (some ⟨gi, 0, none⟩) s.is.length c) (.slice (some ⟨gw, 0, none⟩) s.wait.length d) := fun v hv => by
          rw [HDS.out, hv]
          exact P2.out.setSec HDL.out.symm x.i _
        have FIN := Lib.hid fin
        clear fin
        by_cases ht : t = 15
        · subst ht
          rw [if_pos rfl] at hpl
          have HPL := Lib.hid hpl
          clear hpl
          go_wp2
          generalize hW : wr.alloc (.cells #[.int .i64 (x.i : Int), .string (str x.b)] 100) = W at *
          clear hW w0 w1 hsh
          go_region
          go_wp2
          go_roundw
          case rel => exact ⟨j + 1, by omega, by go_num, (FIN.out _ (by rw [HPL.out]; exact mix_str15 HSEC.out)).below ((Below.refl _ _).drew), (K2.out.set (b := gi) (o := x.i) (.inl HGI.out) _).drew⟩
          case measure => simp [intOf]; omega
        · rw [if_neg ht] at hpl
          have HPL := Lib.hid hpl
          have ht15 : ((t : Int) == 15) = false := by simp; omega
          have hk3 : (2 * (t : Int)) = ((2 * t : Nat) : Int) := by push_cast; rfl
          clear hpl
          generalize hq : 2 * t = q at *
          have hq0 : (0 : Int) ≤ (q : Int) := by omega
          have hq1 : (q : Int) ≤ 32 := by omega
          clear hq
          go_wp2
          generalize hW : wr.alloc (.cells #[.int .i64 (x.i : Int), .string (str x.b)] 100) = W at *
          clear hW w0 w1 hsh hk3 ht15
          go_region
          go_wp2
          go_roundw
          case rel => exact ⟨j + 1, by omega, by go_num, (FIN.out _ (by rw [HPL.out]; exact mix_str HSEC.out)).below ((Below.refl _ _).drew), (K2.out.set (b := gi) (o := x.i) (.inl HGI.out) _).drew⟩
          case measure => simp [intOf]; omega
      · obtain rfl : j = s.wait.length := by omega
        have hlI : ¬ ((s.wait.length : Int) < (s.wait.length : Int)) := by omega
        have c2' := P1.out.cells.2.2.1
        have c3 := P1.out.cells.2.2.2.1
        have z1 := P1.out.row.frozen 1
        have z2 := P1.out.row.frozen 2
        have z3 := P1.out.row.frozen 3
        have PF := Lib.hid (((RBv.setWaits (ws := []) (u := .slice none 0 0) P1.out.row P1.out.is (World.ownsRow_nil _ _ _ _)).setGone true).setLeft 0)
        have KF := Lib.hid (((K1.out.set (b := b) (o := 1) (.inl hbF) (.slice none 0 0)).set (b := b) (o := 2) (.inl hbF) (.bool true)).set (b := b) (o := 3) (.inl hbF) (.int .i64 ((0 : Nat) : Int)))
        have e0 : ((0 : Nat) : Int) = 0 := rfl
        rw [e0] at PF KF
        clear e0 hj
        go_wp2
        go_end0
        exact ⟨rfl, Goes.ref PF.out hbF (fun k hk => .inl (HF.out k (.inr (.inl hk)))) (fun k hk => by simp [Value.ownBlock] at hk) KF.out⟩
  · have e1 : crash s keep = s := by unfold crash; rw [if_pos hgo]
    rw [e1]
    rw [hgo] at c2
    clear h hg hF e1
    go_enter Tryz.func24, Tryz.ntmps24
    go_wp2
    exact bodyPost_ret (results_none rfl _ _ _) rfl ⟨rfl, Goes.same HP0.out (Keeps.refl _ _)⟩
end Go.Proofs.YtacdbfaoeioflaaGreatDoor
