/-
  TimerOnce, walked.
-/
import Derived.Test.YtcanagecdniiiaaAlone
import Derived.Laws.AppendOwnNone
namespace Go.Proofs.Ytcanagecdniiiaa
open Go.RowKit

theorem left_two (l : List Al) (n lo hi : Int) (h : lo ≤ hi) : leftL (leftL l n lo) n hi = leftL l n hi := by
  unfold leftL; rw [List.filter_filter]; apply List.filter_congr; intro x _
  rw [Bool.eq_iff_iff]; simp; omega
theorem due_none (l : List Al) (n hi : Int) : dueL (leftL l n hi) n hi = [] := by
  unfold leftL dueL; rw [List.filter_filter, List.filter_eq_nil_iff]; intro x _; simp
theorem left_same (l : List Al) (n hi : Int) : leftL (leftL l n hi) n hi = leftL l n hi := left_two l n hi hi (by omega)
theorem due_two {l : List Al} (hG : Good l) (n lo hi : Int) (h : lo ≤ hi) : dueL l n lo ++ dueL (leftL l n lo) n hi = dueL l n hi := by
  refine sorted_unique _ _ ?_ (hG.due n hi).sorted fun y => ?_
  · refine List.pairwise_append.2 ⟨(hG.due n lo).sorted, ((hG.left n lo).due n hi).sorted, fun a ha b hb => ?_⟩
    unfold dueL at ha hb
    unfold leftL at hb
    simp only [List.mem_filter, decide_eq_true_eq, Bool.not_eq_true', decide_eq_false_iff_not] at ha hb
    obtain ⟨-, a1, a2⟩ := ha
    obtain ⟨⟨-, b0⟩, b1, b2⟩ := hb
    unfold Al.lt
    omega
  · rw [List.mem_append]
    unfold dueL leftL
    simp only [List.mem_filter, decide_eq_true_eq, Bool.not_eq_true', decide_eq_false_iff_not]
    constructor
    · rintro (⟨a0, a1, a2⟩ | ⟨⟨a0, -⟩, a1, a2⟩)
      · exact ⟨a0, a1, by omega⟩
      · exact ⟨a0, a1, a2⟩
    · rintro ⟨a0, a1, a2⟩
      by_cases hq : y.a ≤ lo
      · exact .inl ⟨a0, a1, hq⟩
      · exact .inr ⟨⟨a0, fun hc => hq hc.2⟩, a1, a2⟩

/-- Two timers, and the document's own. -/
structure TTR (w : World) (b1 m1 : Nat) (l1 : List Al) (b2 m2 : Nat) (l2 : List Al) (B : Nat) (l3 : List Al) : Prop where
  tt : TT w b1 m1 l1 b2 m2 l2
  rf : Rf w B l3
  good : Good l3
  n1 : b1 ≠ B
  n2 : b2 ≠ B
theorem TTR.both1 {w : World} {b1 m1 b2 m2 B : Nat} {l1 l2 l3 : List Al} (h : TTR w b1 m1 l1 b2 m2 l2 B l3) : Both w b1 m1 l1 B l3 := ⟨h.tt.h1, h.rf, h.good, h.n1⟩
theorem TTR.both2 {w : World} {b1 m1 b2 m2 B : Nat} {l1 l2 l3 : List Al} (h : TTR w b1 m1 l1 b2 m2 l2 B l3) : Both w b2 m2 l2 B l3 := ⟨h.tt.h2, h.rf, h.good, h.n2⟩
theorem TTR.below {w w' : World} {b1 m1 b2 m2 B : Nat} {l1 l2 l3 : List Al} (h : TTR w b1 m1 l1 b2 m2 l2 B l3) (hb : Below w.heap.size w w') : TTR w' b1 m1 l1 b2 m2 l2 B l3 := ⟨h.tt.below hb, h.rf.below hb, h.good, h.n1, h.n2⟩
theorem TTR.step1 {w w' : World} {b1 m1 b2 m2 B : Nat} {l1 l2 l3 k : List Al} (h : TTR w b1 m1 l1 b2 m2 l2 B l3) (hT : Tms w' b1 m1 k) (hg : w.grownBy w' (some m1)) : TTR w' b1 m1 k b2 m2 l2 B l3 := ⟨h.tt.step hT hg, (h.both1.prog hg hT).rf, h.good, h.n1, h.n2⟩
theorem TTR.step2 {w w' : World} {b1 m1 b2 m2 B : Nat} {l1 l2 l3 k : List Al} (h : TTR w b1 m1 l1 b2 m2 l2 B l3) (hT : Tms w' b2 m2 k) (hg : w.grownBy w' (some m2)) : TTR w' b1 m1 l1 b2 m2 k B l3 := ⟨(h.tt.swap.step hT hg).swap, (h.both2.prog hg hT).rf, h.good, h.n1, h.n2⟩
theorem TTR.step3 {w w' : World} {b1 m1 b2 m2 B : Nat} {l1 l2 l3 k : List Al} (h : TTR w b1 m1 l1 b2 m2 l2 B l3) (hT : Rf w' B k) (hg : w.grownBy w' (some B)) (hG : Good k) : TTR w' b1 m1 l1 b2 m2 l2 B k := ⟨⟨(h.both1.ref hg hT hG).tms, (h.both2.ref hg hT hG).tms, h.tt.ne⟩, hT, hG, h.n1, h.n2⟩
/-- A row of alarms of the document's stays while a map, or the timers of the document's, turn. -/
theorem owns_map {w w' : World} {B mb base : Nat} {v : Value} {l k : List Al} (h : Owns 40 w base v l) (hT : Tms w B mb k) (hg : w.grownBy w' (some mb)) : Owns 40 w' base v l :=
  h.grown hg fun g hgg e => by
    have e' := Option.some.inj e
    subst e'
    rcases h.2 with ⟨rfl, _⟩ | ⟨g', cap, cur, rfl, _, hg', _⟩
    · simp [Value.ownBlock] at hgg
    · have : g' = g := by simpa [Value.ownBlock] using hgg
      subst this
      obtain ⟨D, ⟨es, clock, hb, _⟩, _⟩ := hT.2
      rw [hb] at hg'; cases hg'
theorem owns_ref {w w' : World} {B base : Nat} {v : Value} {l k : List Al} (h : Owns 40 w base v l) (hT : Rf w B k) (hg : w.grownBy w' (some B)) : Owns 40 w' base v l := by
  obtain ⟨s, hs, -⟩ := hT
  exact h.grown hg fun g hgg e => row_ne_timers hs h (by rw [hgg, e])

set_option maxRecDepth 100000 in
set_option maxHeartbeats 2000000 in
theorem theirs_some (base : Nat) (v : Value) (l : List Al) (w : World) (ho : Owns 31 w base v l) (hl : l.length ≤ 1000) :
    Calls Try.prog 11 #[v] w fun e w' => ∃ u, e = .returned u ∧ Owns 40 w' w.heap.size u l ∧ (∃ g cp, u = .slice (some ⟨g, 0, none⟩) l.length cp) ∧ Below w.heap.size w w' := by
  obtain ⟨i0, hi0, hz0, hz1, hz2⟩ := info_parts infoR
  obtain ⟨A, cap, rfl⟩ := ho.shape
  have HO := Lib.hid ho
  clear ho
  have hb1 : Below w.heap.size w (w.alloc (.cells #[] 40)) := (Below.refl _ _).alloc (Nat.le_refl _) _
  have B1 := Lib.hid hb1
  have O1 := Lib.hid (Owns.lit (e := 40) (w := w) (Nat.le_refl w.heap.size))
  clear hb1
  go_enter Try.func11, Try.ntmps11
  go_wp2
  go_loopw [3, 4] (fun u iv wr => ∃ k : Nat, k ≤ l.length ∧ iv = .int .i64 k ∧ Owns 40 wr w.heap.size u (l.take k) ∧ (∃ g cp, u = .slice (some ⟨g, 0, none⟩) k cp) ∧ Below w.heap.size w wr) (fun _ iv _ => l.length - (intOf iv).toNat)
  case atStart => exact ⟨0, Nat.zero_le _, rfl, O1.out, ⟨_, _, rfl⟩, B1.out⟩
  case round =>
    obtain ⟨k, hk, rfl, hown, ⟨g9, cp9, rfl⟩, hB⟩ := hrel
    have O2 := Lib.hid hown
    have B2 := Lib.hid hB
    clear hown hB
    have hzs : w.heap.size ≤ wr.heap.size := B2.out.size
    by_cases hlt : k < l.length
    · obtain ⟨m, hm⟩ : ∃ m, l[k]? = some m := ⟨_, List.getElem?_eq_getElem hlt⟩
      have hlI : (k : Int) < (l.length : Int) := by omega
      have hkI : (0 : Int) ≤ (k : Int) := by omega
      rcases (HO.out.below B2.out).form with ⟨-, rfl⟩ | ⟨g, cap', e1, hbg, hgl, -, -, hat⟩
      · simp at hlt
      cases e1
      obtain ⟨d0, d1, d2⟩ := hat k m hm
      have htk := Lib.hid (show l.take (k + 1) = l.take k ++ [m] by rw [List.take_add_one, hm]; rfl)
      have hlen : (l.take k).length ≤ 1000 := by rw [List.length_take]; omega
      clear hat hm
      go_wp2_with (at_builtin; refine wpList_append_lies _ rfl (.tmp 12) (.tmp 17) 26 rfl w.heap.size 40 i0 _ 3 24 Try.underlying26 hi0 hz0 hz1 hz2 rfl (by decide) _ _ _ rfl (O2.out.below (below_al wr m)) ⟨wr.heap.size, 0, none⟩ 1 1 (flat [m]) rfl (by simp [flat]) (news1 wr m 40) (flat_oneCell _) (by decide) (by unfold maxLen; omega) (by omega) (by simp; omega) (wr.heap.size + 1) (by simp) ?_; intro g3 cap3 w3 hown hgrow _ _; (have P3 := Lib.hid (Owns.snoc hown)); (have Q3 := Lib.hid (below_grown (B2.out.trans ((below_al wr m).mono hzs)) hgrow (by simp; omega) (fun k hk => (O2.out.lt hk).1))); clear hown hgrow)
      go_roundw
      case rel => exact ⟨k + 1, by omega, by go_num, by rw [htk.out]; simpa [show min k l.length = k by omega] using P3.out, ⟨_, _, rfl⟩, Q3.out⟩
      case measure => simp [intOf]; omega
    · have hlI : ¬ ((k : Int) < (l.length : Int)) := by omega
      obtain rfl : k = l.length := by omega
      rw [List.take_length] at O2
      go_wp2
      go_ret
      exact ⟨_, rfl, O2.out, ⟨_, _, rfl⟩, B2.out⟩

set_option maxRecDepth 100000 in
set_option maxHeartbeats 16000000 in
theorem once_any (A : Option Addr) (n c : Nat) (al : Nat → Al) (node a b : Int) (w : World) (hS : Als w A n al) :
    Calls Try.prog 4 #[.slice A n c, .int .i64 node, .int .i64 a, .int .i64 b] w fun e w' => e = .returned (.bool true) ∧ Below w.heap.size w w' := by
  have HS := Lib.hid hS
  clear hS
  by_cases hn : 100 < n
  · have hnI : (100 : Int) < (n : Int) := by omega
    go_enter Try.func4, Try.ntmps4
    go_wp2
    go_ret
    exact ⟨rfl, Below.refl _ _⟩
  have hnI : ¬ ((100 : Int) < (n : Int)) := by omega
  go_enter Try.func4, Try.ntmps4
  go_wp2_with fail
  go_at_call 8
  refine (new_any _).mono ?_
  rintro e w1 ⟨rfl, k1, k2, k3⟩
  have T1 := Lib.hid k1
  have B1 := Lib.hid k2
  obtain ⟨m1, hm1⟩ : ∃ m1, w.heap.size = m1 := ⟨_, rfl⟩
  obtain ⟨b1, hb1⟩ : ∃ b1, w.heap.size + 1 = b1 := ⟨_, rfl⟩
  have hm1w : w.heap.size ≤ m1 := Nat.le_of_eq hm1
  rw [hb1] at T1 ⊢
  rw [hm1] at T1
  clear k1 k2 k3 hm1 hb1
  go_wp2_with fail
  go_at_call 8
  refine (new_any _).mono ?_
  rintro e w2 ⟨rfl, k1, k2, k3⟩
  have TT2 := Lib.hid (show TT w2 b1 m1 [] (w1.heap.size + 1) w1.heap.size [] from ⟨T1.out.below k2, k1, by have := T1.out.2.lt; omega⟩)
  have B2 := Lib.hid (B1.out.trans (k2.mono B1.out.size))
  obtain ⟨m2, hm2⟩ : ∃ m2, w1.heap.size = m2 := ⟨_, rfl⟩
  obtain ⟨b2, hb2⟩ : ∃ b2, w1.heap.size + 1 = b2 := ⟨_, rfl⟩
  have hm2w : w.heap.size ≤ m2 := by have := B1.out.size; omega
  rw [hb2] at TT2 ⊢
  rw [hm2] at TT2
  clear k1 k2 k3 hm2 hb2 T1 B1
  have hbR : Below w2.heap.size w2 (w2.alloc (.cells #[.slice none 0 0] 28)) := (Below.refl _ _).alloc (Nat.le_refl _) _
  have T3 := Lib.hid (show TTR (w2.alloc (.cells #[.slice none 0 0] 28)) b1 m1 [] b2 m2 [] w2.heap.size [] from ⟨TT2.out.below hbR, Rf.start w2, Good.nil, Nat.ne_of_lt TT2.out.h1.lt, Nat.ne_of_lt TT2.out.h2.lt⟩)
  have B3 := Lib.hid (B2.out.trans (hbR.mono B2.out.size))
  have hBw : w.heap.size ≤ w2.heap.size := B2.out.size
  clear hbR TT2 B2
  go_wp2
  generalize hW3 : w2.alloc (.cells #[.slice none 0 0] 28) = w3 at T3 B3 ⊢
  generalize hB : w2.heap.size = B at hBw T3 ⊢
  clear hW3 hB
  go_loopw [12] (fun iv wr => ∃ (k : Nat) (l : List Al), k ≤ n ∧ iv = .int .i64 k ∧ TTR wr b1 m1 l b2 m2 l B l ∧ Below w.heap.size w wr) (fun iv _ => n - (intOf iv).toNat)
  case atStart => exact ⟨0, [], Nat.zero_le _, rfl, T3.out, B3.out⟩
  case round =>
    obtain ⟨k, l, hk, rfl, hT, hB⟩ := hrel
    have T4 := Lib.hid hT
    have B4 := Lib.hid hB
    clear hT hB T3 B3
    by_cases hlt : k < n
    · have hlI : (k : Int) < (n : Int) := by omega
      have hkI : (0 : Int) ≤ (k : Int) := by omega
      obtain ⟨bb, off, rfl, hat⟩ := HS.out k hlt
      have hbl := hat.lt
      have HAt := Lib.hid (fun W (h : Below w.heap.size w W) => show (At W bb (off + k * 3) (al k) ∧ bb < W.heap.size) from ⟨hat.kept' (w' := W) (fun o => h.cell (p := ⟨bb, o, none⟩) hbl), by have := h.size; omega⟩)
      obtain ⟨⟨c0, c1, c2⟩, hbr⟩ := HAt.out wr B4.out
      have HD1 := Lib.hid (fun W (h : Tms W b1 m1 l) => set_any b1 m1 l (al k) W h)
      have HD2 := Lib.hid (fun W (h : Tms W b2 m2 l) => set_any b2 m2 l (al k) W h)
      have HD3 := Lib.hid (fun W (h : Rf W B l) (hG : Good l) => rset_any B l (al k) W h hG)
      have hGs := T4.out.good.set (al k)
      generalize setE l (al k) = se at HD1 HD2 HD3
      generalize setL l (al k) = l' at HD1 HD2 HD3 hGs
      have hGS := Lib.hid hGs
      generalize al k = x at c0 c1 c2 HAt HD1 HD2 HD3
      clear hat hGs
      go_wp2_with fail
      go_at_call 16
      refine (HD1.out _ T4.out.tt.h1).mono ?_
      rintro e wa ⟨rfl, k1, k2⟩
      have T5 := Lib.hid (T4.out.step1 k1 k2)
      have B5 := Lib.hid (below_grown B4.out k2 B4.out.size (by rintro k ⟨rfl⟩; exact hm1w))
      clear k1 k2 c0 c1 c2 hbr
      obtain ⟨⟨c0, c1, c2⟩, hbr⟩ := HAt.out wa B5.out
      go_wp2_with fail
      go_at_call 16
      refine (HD2.out _ T5.out.tt.h2).mono ?_
      rintro e wb ⟨rfl, k1, k2⟩
      have T6 := Lib.hid (T5.out.step2 k1 k2)
      have B6 := Lib.hid (below_grown B5.out k2 B5.out.size (by rintro k ⟨rfl⟩; exact hm2w))
      clear k1 k2 c0 c1 c2 hbr T5 B5
      obtain ⟨⟨c0, c1, c2⟩, hbr⟩ := HAt.out wb B6.out
      go_wp2_with fail
      go_at_call 17
      refine (HD3.out _ T6.out.rf T6.out.good).mono ?_
      rintro e wc ⟨rfl, k1, k2⟩
      have T7 := Lib.hid (T6.out.step3 k1 k2 hGS.out)
      have B7 := Lib.hid (below_grown B6.out k2 B6.out.size (by rintro k ⟨rfl⟩; exact hBw))
      clear k1 k2 c0 c1 c2 hbr T6 B6
      go_wp2
      go_roundw
      case rel => exact ⟨k + 1, l', by omega, by go_num, T7.out, B7.out⟩
      case measure => simp [intOf]; omega
    · have hlI : ¬ ((k : Int) < (n : Int)) := by omega
      have hle := T4.out.good.le
      go_wp2_with fail
      obtain ⟨i0, hi0, hz0, hz1, hz2⟩ := info_parts infoR
      have hlh : min a b ≤ max a b := by omega
      generalize min a b = lo at hlh ⊢
      generalize max a b = hi at hlh ⊢
      have hG := T4.out.good
      have e1 := due_two hG node lo hi hlh
      have e2 := left_two l node lo hi hlh
      have e3 := due_none l node hi
      have e4 := left_same l node hi
      have hGl := hG.left node hi
      have hlo : ∀ m ∈ dueL l node lo, ¬ (lo < m.a) := fun m hm => by
        have := (List.mem_filter.1 hm).2
        simp at this; omega
      have hX : (dueL l node lo).length ≤ 64 := Nat.le_trans (List.length_filter_le _ _) hle
      have hX2 : (dueL (leftL l node lo) node hi).length ≤ 64 := Nat.le_trans (List.length_filter_le _ _) (hG.left node lo).le
      have HD1 := Lib.hid (fun W (h : Tms W b1 m1 l) => due_any b1 m1 l node lo W h)
      have HD2 := Lib.hid (fun W (h : Tms W b1 m1 (leftL l node lo)) => e2 ▸ due_any b1 m1 (leftL l node lo) node hi W h)
      have HD3 := Lib.hid (fun W (h : Tms W b2 m2 l) => due_any b2 m2 l node hi W h)
      have HD4 := Lib.hid (fun W (h : Rf W B l) => rdue_any B l node hi W h (by omega))
      have HD5 := Lib.hid (fun W (h : Tms W b1 m1 (leftL l node hi)) => e3 ▸ e4 ▸ due_any b1 m1 (leftL l node hi) node hi W h)
      have hY : (dueL l node hi).length ≤ 64 := Nat.le_trans (List.length_filter_le _ _) hle
      generalize dueL l node lo = X at e1 hlo hX HD1
      generalize leftL l node lo = l1 at e1 HD1 HD2 hX2 e2
      generalize dueL l1 node hi = X2 at e1 HD2 hX2
      generalize dueL l node hi = Y at e1 HD3 HD4 hY
      generalize leftL l node hi = lu at hGl HD2 HD3 HD4 HD5 e2 e3 e4
      have E1 := Lib.hid e1
      have HLo := Lib.hid hlo
      have hlu := hGl.le
      have HGl := Lib.hid hGl
      clear e1 e2 e3 e4 hlo hG hGl hlh
      go_at_call 18
      refine (HD1.out _ T4.out.tt.h1).mono ?_
      rintro e wa ⟨v1, rfl, k0, k1, k2⟩
      have T5 := Lib.hid (T4.out.step1 k1 k2)
      have B5 := Lib.hid (below_grown B4.out k2 B4.out.size (by rintro k ⟨rfl⟩; exact hm1w))
      have V5 := Lib.hid k0
      clear k0 k1 k2 T4 B4 HD1
      go_wp2_with fail
      go_at_call 11
      refine (theirs_some _ _ X _ V5.out (by omega)).mono ?_
      rintro e wb ⟨x1, rfl, k0, ⟨gx, cx, rfl⟩, k1⟩
      have T6 := Lib.hid (T5.out.below k1)
      have B6 := Lib.hid (B5.out.trans (k1.mono B5.out.size))
      have V6 := Lib.hid k0
      have G6 := Lib.hid (show wa.grownBy wb (some m1) from grown_of_below k1 _)
      have hza := T5.out.tt.h1.lt
      have hzb := T5.out.tt.h1.2.lt
      have hzc := T5.out.tt.h2.lt
      have hzd := T5.out.tt.h2.2.lt
      have hzw := B5.out.size
      obtain ⟨z6, hz6a⟩ : ∃ z6, wa.heap.size = z6 := ⟨_, rfl⟩
      rw [hz6a] at V6 hza hzb hzc hzd hzw
      have HZ := Lib.hid hz6a
      clear k0 k1 B5 V5 hz6a
      go_wp2
      go_loopw [17] (fun iv wr => ∃ (k : Nat), k ≤ X.length ∧ iv = .int .i64 k ∧ Owns 40 wr z6 (.slice (some ⟨gx, 0, none⟩) X.length cx) X ∧ TTR wr b1 m1 l1 b2 m2 l B l ∧ Below w.heap.size w wr ∧ wa.grownBy wr (some m1)) (fun iv _ => X.length - (intOf iv).toNat)
      case atStart => exact ⟨0, Nat.zero_le _, rfl, V6.out, T6.out, B6.out, G6.out⟩
      case round =>
        obtain ⟨j, hj, rfl, hV, hT, hB, hGw⟩ := hrel
        have G7 := Lib.hid hGw
        have V7 := Lib.hid hV
        have T7 := Lib.hid hT
        have B7 := Lib.hid hB
        clear hV hT hB hGw V6 T6 B6 G6
        by_cases hlt2 : j < X.length
        · have hlJ : (j : Int) < (X.length : Int) := by omega
          have hkJ : (0 : Int) ≤ (j : Int) := by omega
          rcases V7.out.form with ⟨h9, -⟩ | ⟨g, cap', e9, -, -, -, -, hat⟩
          · cases h9
          cases e9
          obtain ⟨m, hm⟩ : ∃ m, X[j]? = some m := ⟨_, List.getElem?_eq_getElem hlt2⟩
          obtain ⟨c0, c1, c2⟩ := hat j m hm
          have hma := HLo.out m (List.mem_of_getElem? hm)
          clear hat hm
          go_wp2
          go_roundw
          case rel => exact ⟨j + 1, by omega, by go_num, V7.out, T7.out, B7.out, G7.out⟩
          case measure => simp [intOf]; omega
        · have hlJ : ¬ ((j : Int) < (X.length : Int)) := by omega
          go_wp2_with fail
          go_at_call 18
          refine (HD2.out _ T7.out.tt.h1).mono ?_
          rintro e wc ⟨v2, rfl, k0, k1, k2⟩
          have T8 := Lib.hid (T7.out.step1 k1 k2)
          have B8 := Lib.hid (below_grown B7.out k2 B7.out.size (by rintro k ⟨rfl⟩; exact hm1w))
          have V8 := Lib.hid (owns_map V7.out T7.out.tt.h1 k2)
          have U8 := Lib.hid k0
          have G8 := Lib.hid (grown_trans G7.out k2)
          clear k0 k1 k2 T7 B7 V7 HD2 G7
          go_wp2_with fail
          go_at_call 11
          refine (theirs_some _ _ X2 _ U8.out (by omega)).mono ?_
          rintro e wd ⟨x2, rfl, k0, ⟨gy, cy, rfl⟩, k1⟩
          have T9 := Lib.hid (T8.out.below k1)
          have B9 := Lib.hid (B8.out.trans (k1.mono B8.out.size))
          have V9 := Lib.hid (V8.out.below k1)
          have U9 := Lib.hid k0.news
          have G9 := Lib.hid (grown_then_below G8.out k1)
          have hz6 := (V9.out.lt (g := gx) rfl).1
          have hgx := (V9.out.lt (g := gx) rfl).2
          have hzwd : w.heap.size ≤ wd.heap.size := B9.out.size
          clear k0 k1 T8 B8 V8 U8
          go_wp2_with (at_builtin; refine wpList_append_own _ rfl (.tmp 80) (.tmp 85) 26 rfl z6 40 i0 _ 3 24 Try.underlying26 hi0 hz0 hz1 hz2 rfl (by decide) _ _ _ rfl V9.out ⟨gy, 0, none⟩ X2.length cy (flat X2) rfl (flat_length X2) U9.out (flat_oneCell _) (by unfold maxLen; omega) (by omega) (by omega) ?_; intro v9 w9 hown9 hgrow9 _)
          have V10 := Lib.hid (show Owns 40 w9 z6 v9 Y from by unfold Owns; rw [← E1.out, flat_append, List.length_append]; exact hown9)
          have hg9 : wd.grownBy w9 (some gx) := hgrow9
          have G10 := Lib.hid (G9.out.andThen hg9 (fun j hj => .inl (by have := Option.some.inj hj; have := HZ.out; omega)))
          have hT1 := T9.out.tt.h1.kept hg9 (fun e => by have := Option.some.inj e; omega) (fun e => by have := Option.some.inj e; omega)
          have hT2 := T9.out.tt.h2.kept hg9 (fun e => by have := Option.some.inj e; omega) (fun e => by have := Option.some.inj e; omega)
          have T10 := Lib.hid (show TTR w9 b1 m1 lu b2 m2 l B l from ⟨⟨hT1, hT2, T9.out.tt.ne⟩, (T5.out.both1.prog G10.out hT1).rf, T9.out.good, T9.out.n1, T9.out.n2⟩)
          have B10 := Lib.hid (below_grown B9.out hg9 hzwd (fun k hk => by have := Option.some.inj hk; omega))
          clear hown9 hgrow9 hg9 hT1 hT2 T9 B9 V9 U9 G8 G9 G10 T5
          go_at_call 18
          refine (HD3.out _ T10.out.tt.h2).mono ?_
          rintro e wA ⟨v3, rfl, k0, k1, k2⟩
          have T11 := Lib.hid (T10.out.step2 k1 k2)
          have B11 := Lib.hid (below_grown B10.out k2 B10.out.size (by rintro k ⟨rfl⟩; exact hm2w))
          have V11 := Lib.hid (owns_map V10.out T10.out.tt.h2 k2)
          have U11 := Lib.hid k0
          clear k0 k1 k2 T10 B10 V10 HD3
          go_wp2_with fail
          go_at_call 11
          refine (theirs_any _ _ Y _ U11.out (by omega)).mono ?_
          rintro e wB ⟨y1, rfl, k0, k1⟩
          have T12 := Lib.hid (T11.out.below k1)
          have B12 := Lib.hid (B11.out.trans (k1.mono B11.out.size))
          have V12 := Lib.hid (V11.out.below k1)
          have Y12 := Lib.hid k0
          clear k0 k1 T11 B11 V11 U11
          go_wp2_with fail
          go_at_call 10
          refine (same_any _ _ _ _ Y Y _ V12.out Y12.out (by omega)).mono ?_
          rintro e wC ⟨rfl, k1⟩
          rw [decide_eq_true rfl]
          have T13 := Lib.hid (T12.out.below k1)
          have B13 := Lib.hid (B12.out.trans (k1.mono B12.out.size))
          have Y13 := Lib.hid (Y12.out.below k1)
          clear k1 T12 B12 V12 Y12
          go_wp2_with fail
          go_at_call 19
          refine (HD4.out _ T13.out.rf).mono ?_
          rintro e wD ⟨z1, rfl, k0, k1, k2⟩
          have T14 := Lib.hid (T13.out.step3 k1 k2 HGl.out)
          have B14 := Lib.hid (below_grown B13.out k2 B13.out.size (by rintro k ⟨rfl⟩; exact hBw))
          have Y14 := Lib.hid (owns_ref Y13.out T13.out.rf k2)
          have Z14 := Lib.hid k0
          clear k0 k1 k2 T13 B13 Y13 HD4
          go_wp2_with fail
          go_at_call 10
          refine (same_any _ _ _ _ Y Y _ Y14.out Z14.out (by omega)).mono ?_
          rintro e wE ⟨rfl, k1⟩
          rw [decide_eq_true rfl]
          have T15 := Lib.hid (T14.out.below k1)
          have B15 := Lib.hid (B14.out.trans (k1.mono B14.out.size))
          clear k1 T14 B14 Y14 Z14
          go_wp2_with fail
          go_at_call 18
          refine (HD5.out _ T15.out.tt.h1).mono ?_
          rintro e wF ⟨v4, rfl, k0, k1, k2⟩
          obtain ⟨A4, c4, rfl⟩ := k0.shape
          have T16 := Lib.hid (T15.out.step1 k1 k2)
          have B16 := Lib.hid (below_grown B15.out k2 B15.out.size (by rintro k ⟨rfl⟩; exact hm1w))
          clear k0 k1 k2 T15 B15 HD5
          go_wp2_with fail
          go_at_call 12
          refine (list_any _ _ lu _ T16.out.tt.h1).mono ?_
          rintro e wG ⟨v5, rfl, k0, k1⟩
          have T17 := Lib.hid (T16.out.below k1)
          have B17 := Lib.hid (B16.out.trans (k1.mono B16.out.size))
          have V17 := Lib.hid k0
          clear k0 k1 T16 B16
          go_wp2_with fail
          go_at_call 11
          refine (theirs_any _ _ lu _ V17.out (by omega)).mono ?_
          rintro e wH ⟨p1, rfl, k0, k1⟩
          have T18 := Lib.hid (T17.out.below k1)
          have B18 := Lib.hid (B17.out.trans (k1.mono B17.out.size))
          have P18 := Lib.hid k0
          clear k0 k1 T17 B17 V17
          go_wp2_with fail
          go_at_call 12
          refine (list_any _ _ lu _ T18.out.tt.h2).mono ?_
          rintro e wI ⟨v6, rfl, k0, k1⟩
          have B19 := Lib.hid (B18.out.trans (k1.mono B18.out.size))
          have P19 := Lib.hid (P18.out.below k1)
          have V19 := Lib.hid k0
          clear k0 k1 T18 B18 P18
          go_wp2_with fail
          go_at_call 11
          refine (theirs_any _ _ lu _ V19.out (by omega)).mono ?_
          rintro e wJ ⟨p2, rfl, k0, k1⟩
          have B20 := Lib.hid (B19.out.trans (k1.mono B19.out.size))
          have P20 := Lib.hid (P19.out.below k1)
          have Q20 := Lib.hid k0
          clear k0 k1 B19 P19 V19
          go_wp2_with fail
          go_at_call 10
          refine (same_any _ _ _ _ lu lu _ P20.out Q20.out (by omega)).mono ?_
          rintro e wK ⟨rfl, k1⟩
          rw [decide_eq_true rfl]
          have B21 := Lib.hid (B20.out.trans (k1.mono B20.out.size))
          clear k1 B20 P20 Q20
          go_wp2_with fail
          go_at_call 15
          refine (shown_any _).mono ?_
          rintro e wL ⟨rfl, k1⟩
          have B22 := Lib.hid (B21.out.trans (k1.mono B21.out.size))
          clear k1
          go_wp2
          go_ret
          exact ⟨rfl, B22.out⟩
end Go.Proofs.Ytcanagecdniiiaa
