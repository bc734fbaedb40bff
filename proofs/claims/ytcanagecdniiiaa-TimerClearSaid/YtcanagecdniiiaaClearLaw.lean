/-
  TimerClear, walked.
-/
import Derived.Test.YtcanagecdniiiaaNextLaw
namespace Go.Proofs.Ytcanagecdniiiaa
open Go.RowKit

theorem clear_wo (l : List Al) (n t : Int) : clearL (wo l n t) n = clearL l n := by
  unfold clearL wo
  rw [List.filter_filter]
  apply List.filter_congr
  intro x _
  by_cases hx : x.n = n
  · simp [hx]
  · rw [show decide (x.is n t) = false from decide_eq_false (fun h => hx h.1)]; simp [hx]
theorem node_wo {l : List Al} (h : Good l) (n t : Int) : (ofNode (wo l n t) n).length + (if hasA l n t then 1 else 0) = (ofNode l n).length := by
  have h1 := wo_length (h.ofNode n) n t
  have e1 : wo (ofNode l n) n t = ofNode (wo l n t) n := by
    unfold wo ofNode; rw [List.filter_filter, List.filter_filter]; apply List.filter_congr; intro x _; exact Bool.and_comm _ _
  have e2 : hasA (ofNode l n) n t = hasA l n t := by
    unfold hasA ofNode
    rw [List.any_filter]
    congr 1
    funext x
    by_cases hx : x.is n t
    · rw [decide_eq_true hx, decide_eq_true hx.1]; rfl
    · rw [decide_eq_false hx, Bool.and_false]
  rw [e1, e2] at h1
  exact h1
theorem clear_clear (l : List Al) (n : Int) : clearL (clearL l n) n = clearL l n := by
  unfold clearL; rw [List.filter_filter]; apply List.filter_congr; intro x _; simp
theorem of_clear (l : List Al) (n : Int) : (ofNode (clearL l n) n).length = 0 := by
  unfold clearL ofNode; rw [List.filter_filter, List.length_eq_zero_iff, List.filter_eq_nil_iff]; intro x _; simp
theorem due_clear (l : List Al) (n : Int) : dueL (clearL l n) n 1099511627776 = [] := by
  unfold clearL dueL; rw [List.filter_filter, List.filter_eq_nil_iff]; intro x _; by_cases hx : x.n = n <;> simp [hx]
theorem left_clear (l : List Al) (n : Int) : leftL (clearL l n) n 1099511627776 = clearL l n := by
  unfold clearL leftL; rw [List.filter_filter]; apply List.filter_congr; intro x _; by_cases hx : x.n = n <;> simp [hx]
theorem next_clear (l : List Al) (n : Int) : nextB (clearL l n) n = false := by
  unfold nextB clearL; rw [List.any_filter, List.any_eq_false]; intro x _; by_cases hx : x.n = n <;> simp [hx]
/-- What is left behind the nodes below c. -/
def restN (l : List Al) (c : Nat) : List Al := l.filter fun x => decide ((c : Int) ≤ x.n)
theorem restN_zero {l : List Al} (h : Good l) : restN l 0 = l := by
  unfold restN; rw [List.filter_eq_self]; intro x hx; have := (h.all x hx).1.1; simpa using this
theorem restN_end {l : List Al} (h : Good l) : restN l 8 = [] := by
  unfold restN; rw [List.filter_eq_nil_iff]; intro x hx; have := (h.all x hx).1.2; simp; omega
theorem restN_left {l : List Al} (h : Good l) (c : Nat) : leftL (restN l c) c 1099511627776 = restN l (c + 1) := by
  unfold leftL restN
  rw [List.filter_filter]
  apply List.filter_congr
  intro x hx
  have := (h.all x hx).2.1.2
  rw [Bool.eq_iff_iff]
  simp
  omega
theorem hasA_snoc (l : List Al) (m : Al) (n t : Int) : hasA (l ++ [m]) n t = (hasA l n t || decide (m.is n t)) := by unfold hasA; simp

set_option maxRecDepth 100000 in
set_option maxHeartbeats 8000000 in
theorem clearLaw_any (A : Option Addr) (n c : Nat) (al : Nat → Al) (node tag : Int) (w : World) (hS : Als w A n al) (hn1 : i64 node) (ht1 : i64 tag) :
    Calls Try.prog 7 #[.slice A n c, .int .i64 node, .int .i64 tag] w fun e w' => e = .returned (.bool true) ∧ Below w.heap.size w w' := by
  have HS := Lib.hid hS
  clear hS
  by_cases hn : 60 < n
  · have hnI : (60 : Int) < (n : Int) := by omega
    go_enter Try.func7, Try.ntmps7
    go_wp2
    go_ret
    exact ⟨rfl, Below.refl _ _⟩
  have hnI : ¬ ((60 : Int) < (n : Int)) := by omega
  go_enter Try.func7, Try.ntmps7
  go_wp2_with fail
  go_at_call 8
  refine (new_any _).mono ?_
  rintro e w1 ⟨rfl, k1, k2, k3⟩
  have T1 := Lib.hid k1
  have B1 := Lib.hid k2
  obtain ⟨m1, hm1⟩ : ∃ m1, w.heap.size = m1 := ⟨_, rfl⟩
  obtain ⟨b1, hb1⟩ : ∃ b1, w.heap.size + 1 = b1 := ⟨_, rfl⟩
  have HM1 := Lib.hid hm1
  rw [hb1] at T1 ⊢
  rw [hm1] at T1
  have hm1w : w.heap.size ≤ m1 := Nat.le_of_eq hm1
  clear k1 k2 k3 hm1 hb1 HM1
  go_wp2
  go_loopw [8] (fun iv wr => ∃ (k : Nat) (l : List Al), k ≤ n ∧ iv = .int .i64 k ∧ Tms wr b1 m1 l ∧ Below w.heap.size w wr) (fun iv _ => n - (intOf iv).toNat)
  case atStart => exact ⟨0, [], Nat.zero_le _, rfl, T1.out, B1.out⟩
  case round =>
    obtain ⟨k, l, hk, rfl, hT, hB⟩ := hrel
    have T4 := Lib.hid hT
    have B4 := Lib.hid hB
    clear hT hB T1 B1
    by_cases hlt : k < n
    · have hlI : (k : Int) < (n : Int) := by omega
      have hkI : (0 : Int) ≤ (k : Int) := by omega
      obtain ⟨b, off, rfl, hat⟩ := HS.out k hlt
      have hbl := hat.lt
      have hbr : b < wr.heap.size := by have := B4.out.size; omega
      obtain ⟨c0, c1, c2⟩ := hat.kept' (w' := wr) (fun o => B4.out.cell (p := ⟨b, o, none⟩) hbl)
      generalize al k = x at c0 c1 c2
      clear hat
      have HD := Lib.hid (set_any b1 m1 l x wr T4.out)
      go_wp2_with fail
      go_at_call 16
      refine HD.out.mono ?_
      rintro e wa ⟨rfl, k1, k2⟩
      have T5 := Lib.hid k1
      have B5 := Lib.hid (below_grown B4.out k2 B4.out.size (by rintro k ⟨rfl⟩; exact hm1w))
      clear k1 k2
      go_wp2
      go_roundw
      case rel => exact ⟨k + 1, _, by omega, by go_num, T5.out, B5.out⟩
      case measure => simp [intOf]; omega
    · have hlI : ¬ ((k : Int) < (n : Int)) := by omega
      have hle := T4.out.2.good.le
      go_wp2_with fail
      go_at_call 12
      refine (list_any _ _ l _ T4.out).mono ?_
      rintro e wb ⟨v, rfl, k1, k2⟩
      obtain ⟨A9, c9, rfl⟩ := k1.shape
      have O6 := Lib.hid k1
      have T6 := Lib.hid (T4.out.below k2)
      have B6 := Lib.hid (B4.out.trans (k2.mono B4.out.size))
      generalize wr.heap.size = zb at O6
      clear k1 k2 T4 B4
      go_wp2
      go_loopw [10, 11, 12] (fun hv bv iv wr => ∃ (k : Nat), k ≤ l.length ∧ iv = .int .i64 k ∧ hv = .int .i64 ((ofNode (l.take k) node).length : Nat) ∧ bv = .bool (hasA (l.take k) node tag) ∧ Tms wr b1 m1 l ∧ Owns 31 wr zb (.slice A9 l.length c9) l ∧ Below w.heap.size w wr) (fun _ _ iv _ => l.length - (intOf iv).toNat)
      case atStart => exact ⟨0, Nat.zero_le _, rfl, rfl, rfl, T6.out, O6.out, B6.out⟩
      case round =>
        obtain ⟨k2, hk2, rfl, rfl, rfl, hT, hO, hB⟩ := hrel
        have T7 := Lib.hid hT
        have O7 := Lib.hid hO
        have B7 := Lib.hid hB
        clear hT hO hB T6 O6 B6
        by_cases hlt2 : k2 < l.length
        · have hlJ : (k2 : Int) < (l.length : Int) := by omega
          have hkJ : (0 : Int) ≤ (k2 : Int) := by omega
          rcases O7.out.form with ⟨-, rfl⟩ | ⟨g, cap', e1, -, -, -, -, hat⟩
          · simp at hlt2
          cases e1
          obtain ⟨m, hm⟩ : ∃ m, l[k2]? = some m := ⟨_, List.getElem?_eq_getElem hlt2⟩
          obtain ⟨c0, c1, c2⟩ := hat k2 m hm
          have hcnt : (ofNode (l.take k2) node).length ≤ l.length := filter_take_le _ _ _
          have htk : l.take (k2 + 1) = l.take k2 ++ [m] := by rw [List.take_add_one, hm]; rfl
          have hha := hasA_snoc (l.take k2) m node tag
          clear hat
          by_cases hq : m.n = node
          · have e3 := filter_take_yes l (fun y => decide (y.n = node)) k2 m hm (by simpa using hq)
            have E3 := Lib.hid (show (ofNode (l.take (k2 + 1)) node).length = (ofNode (l.take k2) node).length + 1 from by have h9 := congrArg List.length e3; rwa [List.length_append, List.length_singleton] at h9)
            have p1 : (m.n == node) = true := by simpa using hq
            have hd : decide (m.is node tag) = (m.t == tag) := by
              unfold Al.is; rw [Bool.eq_iff_iff]; simp [hq]
            rw [hd, ← htk] at hha
            have HH := Lib.hid hha
            generalize (ofNode (l.take k2) node).length = cnt at hcnt E3 ⊢
            generalize hasA (l.take k2) node tag = hb at HH ⊢
            have hc1 : (cnt : Int) ≤ 64 := by omega
            have hc0 : (0 : Int) ≤ (cnt : Int) := by omega
            clear e3 hq hm htk hha hd
            cases hb
            · cases hp : (m.t == tag)
              all_goals
                rw [hp] at HH
                go_wp2
                go_roundw
                case rel => exact ⟨k2 + 1, by omega, by go_num, by rw [E3.out]; rfl, by rw [HH.out]; rfl, T7.out, O7.out, B7.out⟩
                case measure => simp [intOf]; omega
            · go_wp2
              go_roundw
              case rel => exact ⟨k2 + 1, by omega, by go_num, by rw [E3.out]; rfl, by rw [HH.out]; simp, T7.out, O7.out, B7.out⟩
              case measure => simp [intOf]; omega
          · have e3 := filter_take_no l (fun y => decide (y.n = node)) k2 m hm (by simpa using hq)
            have E3 := Lib.hid (show (ofNode (l.take (k2 + 1)) node).length = (ofNode (l.take k2) node).length from congrArg List.length e3)
            have p1 : (m.n == node) = false := by simpa using hq
            have hd : decide (m.is node tag) = false := decide_eq_false (fun h => hq h.1)
            rw [hd, ← htk, Bool.or_false] at hha
            have HH := Lib.hid hha
            generalize (ofNode (l.take k2) node).length = cnt at hcnt E3 ⊢
            generalize hasA (l.take k2) node tag = hb at HH ⊢
            clear e3 hq hm htk hha hd
            go_wp2
            go_roundw
            case rel => exact ⟨k2 + 1, by omega, by go_num, by rw [E3.out], by rw [HH.out], T7.out, O7.out, B7.out⟩
            case measure => simp [intOf]; omega
        · have hlJ : ¬ ((k2 : Int) < (l.length : Int)) := by omega
          obtain rfl : k2 = l.length := by omega
          rw [List.take_length]
          cases hh : hasA l node tag
          · have hst : stopE l node tag = 3 := by unfold stopE; rw [hh]; rfl
            have HSt := Lib.hid (fun W (h : Tms W b1 m1 l) => stop_any b1 m1 l node tag W h hn1 ht1)
            have hcl := node_wo T7.out.2.good node tag
            rw [hh] at hcl
            simp only [Bool.false_eq_true, if_false, Nat.add_zero] at hcl
            have hl3 : (clearL (wo l node tag) node).length + (ofNode l node).length = l.length := by rw [clear_wo]; have := filter_len l (fun x => decide (x.n = node)); unfold clearL ofNode; omega
            rw [hst] at HSt
            have hgood := T7.out.2.good
            clear hst hh
            obtain ⟨h0, hh0⟩ : ∃ h0, (ofNode l node).length = h0 := ⟨_, rfl⟩
            rw [hh0] at hcl hl3 ⊢
            clear hh0
            go_wp2_with fail
            go_at_call 21
            refine (HSt.out _ T7.out).mono ?_
            rintro e wa ⟨rfl, k1, k2⟩
            have T8 := Lib.hid k1
            have B8 := Lib.hid (below_grown B7.out k2 B7.out.size (by rintro k ⟨rfl⟩; exact hm1w))
            clear k1 k2 T7 B7 HSt O7
            have hG2 := T8.out.2.good
            have HC := Lib.hid (fun W (h : Tms W b1 m1 (wo l node tag)) => clear_any b1 m1 (wo l node tag) node W h)
            obtain ⟨l2, hl2⟩ : ∃ l2, wo l node tag = l2 := ⟨_, rfl⟩
            rw [hl2] at T8 HC hG2 hcl hl3
            clear hl2
            obtain ⟨h2, hh2⟩ : ∃ h2, (ofNode l2 node).length = h2 := ⟨_, rfl⟩
            rw [hh2] at HC hcl
            clear hh2
            have hG3 := hG2.clear node
            have hnx := next_clear l2 node
            have HC2 := Lib.hid (fun W (h : Tms W b1 m1 (clearL l2 node)) => (of_clear l2 node) ▸ (clear_clear l2 node) ▸ clear_any b1 m1 (clearL l2 node) node W h)
            have HD3 := Lib.hid (fun W (h : Tms W b1 m1 (clearL l2 node)) => (due_clear l2 node) ▸ (left_clear l2 node) ▸ due_any b1 m1 (clearL l2 node) node 1099511627776 W h)
            have HN := Lib.hid (fun W (h : Tms W b1 m1 (clearL l2 node)) => hnx ▸ next_any b1 m1 (clearL l2 node) node W h)
            obtain ⟨l3, hl3'⟩ : ∃ l3, clearL l2 node = l3 := ⟨_, rfl⟩
            rw [hl3'] at HC HC2 HD3 HN hG3 hl3
            clear hl3' hnx
            generalize nextA l3 node = na at HN
            have hh21 : (h2 : Int)  = (h0 : Int) := by omega
            have hh22 : ((h2 : Int) != (h0 : Int)) = false := by simp; omega
            have hh0 : h0 ≤ 64 := by omega
            go_wp2_with fail
            go_at_call 20
            refine (HC.out _ T8.out).mono ?_
            rintro e wb ⟨rfl, k1, k2⟩
            have T9 := Lib.hid k1
            have B9 := Lib.hid (below_grown B8.out k2 B8.out.size (by rintro k ⟨rfl⟩; exact hm1w))
            clear k1 k2 T8 B8 HC
            go_wp2_with fail
            go_at_call 20
            refine (HC2.out _ T9.out).mono ?_
            rintro e wc ⟨rfl, k1, k2⟩
            have T10 := Lib.hid k1
            have B10 := Lib.hid (below_grown B9.out k2 B9.out.size (by rintro k ⟨rfl⟩; exact hm1w))
            clear k1 k2 T9 B9 HC2
            go_wp2_with fail
            go_at_call 18
            refine (HD3.out _ T10.out).mono ?_
            rintro e wd ⟨v3, rfl, k0, k1, k2⟩
            obtain ⟨A3, c3, rfl⟩ := k0.shape
            have T11 := Lib.hid k1
            have B11 := Lib.hid (below_grown B10.out k2 B10.out.size (by rintro k ⟨rfl⟩; exact hm1w))
            clear k0 k1 k2 T10 B10 HD3
            go_wp2_with fail
            go_at_call 13
            refine (HN.out _ T11.out).mono ?_
            rintro e we ⟨rfl, k1⟩
            have hba := k1.trans (((Below.refl we.heap.size we).alloc (Nat.le_refl _) (.cells na.cells 31)).mono k1.size)
            have T12 := Lib.hid (T11.out.below hba)
            have B12 := Lib.hid (B11.out.trans (hba.mono B11.out.size))
            clear k1 hba T11 B11 HN
            go_wp2
            go_loopw [15, 16] (fun nv iv wr => ∃ (cc N : Nat), cc ≤ 8 ∧ iv = .int .i64 cc ∧ nv = .int .i64 N ∧ N + (restN l3 cc).length = l3.length ∧ Tms wr b1 m1 (restN l3 cc) ∧ Below w.heap.size w wr) (fun _ iv _ => 8 - (intOf iv).toNat)
            case atStart => exact ⟨0, 0, by omega, rfl, rfl, by rw [restN_zero hG3]; omega, by rw [restN_zero hG3]; exact T12.out, B12.out⟩
            case round =>
              obtain ⟨cc, N, hcc, rfl, rfl, hN, hT, hB⟩ := hrel
              have T13 := Lib.hid hT
              have B13 := Lib.hid hB
              clear hT hB T12 B12
              have hl3le := hG3.le
              by_cases hlt3 : cc < 8
              · have hlJ : (cc : Int) < 8 := by omega
                have hNI : (N : Int) ≤ 64 := by omega
                have HD4 := Lib.hid (fun W (h : Tms W b1 m1 (restN l3 cc)) => (restN_left hG3 cc) ▸ due_any b1 m1 (restN l3 cc) cc 1099511627776 W h)
                have hlen := filter_len (restN l3 cc) (fun x => decide (x.n = cc ∧ x.a ≤ 1099511627776))
                have hlen2 : (dueL (restN l3 cc) cc 1099511627776).length + (restN l3 (cc + 1)).length = (restN l3 cc).length := by
                  rw [← restN_left hG3 cc]; exact hlen
                generalize dueL (restN l3 cc) cc 1099511627776 = dl at HD4 hlen2
                clear hlen
                go_wp2_with fail
                go_at_call 18
                refine (HD4.out _ T13.out).mono ?_
                rintro e wf ⟨v4, rfl, k0, k1, k2⟩
                obtain ⟨A4, c4, rfl⟩ := k0.shape
                have T14 := Lib.hid k1
                have B14 := Lib.hid (below_grown B13.out k2 B13.out.size (by rintro k ⟨rfl⟩; exact hm1w))
                have hd64 : (dl.length : Int) ≤ 64 := by omega
                clear k0 k1 k2 T13 B13 HD4
                go_wp2
                go_roundw
                case rel => exact ⟨cc + 1, N + dl.length, by omega, by go_num, by go_num, by omega, T14.out, B14.out⟩
                case measure => simp [intOf]; omega
              · have hlJ : ¬ ((cc : Int) < 8) := by omega
                obtain rfl : cc = 8 := by omega
                rw [restN_end hG3] at hN T13
                have hNe : (N : Int) = (l.length : Int) - (h0 : Int) := by simp at hN; omega
                have hNb : ((N : Int) == (l.length : Int) - (h0 : Int)) = true := by rw [beq_iff_eq]; exact hNe
                clear hNe hN
                go_wp2_with fail
                go_at_call 12
                refine (list_any _ _ [] _ T13.out).mono ?_
                rintro e wf ⟨v5, rfl, k1, k2⟩
                obtain ⟨A5, c5, rfl⟩ := k1.shape
                have BZ := Lib.hid (B13.out.trans (k2.mono B13.out.size))
                clear k1 k2 T13 B13
                go_wp2_with fail
                go_at_call 15
                refine (shown_any _).mono ?_
                rintro e wz ⟨rfl, k1⟩
                have Bz := Lib.hid (BZ.out.trans (k1.mono BZ.out.size))
                clear k1
                go_wp2
                go_ret
                exact ⟨rfl, Bz.out⟩
          · have hst : stopE l node tag = 0 := by unfold stopE; rw [hh]; rfl
            have HSt := Lib.hid (fun W (h : Tms W b1 m1 l) => stop_any b1 m1 l node tag W h hn1 ht1)
            have hcl := node_wo T7.out.2.good node tag
            rw [hh] at hcl
            simp only [if_true] at hcl
            have hl3 : (clearL (wo l node tag) node).length + (ofNode l node).length = l.length := by rw [clear_wo]; have := filter_len l (fun x => decide (x.n = node)); unfold clearL ofNode; omega
            rw [hst] at HSt
            have hgood := T7.out.2.good
            clear hst hh
            obtain ⟨h0, hh0⟩ : ∃ h0, (ofNode l node).length = h0 := ⟨_, rfl⟩
            rw [hh0] at hcl hl3 ⊢
            clear hh0
            go_wp2_with fail
            go_at_call 21
            refine (HSt.out _ T7.out).mono ?_
            rintro e wa ⟨rfl, k1, k2⟩
            have T8 := Lib.hid k1
            have B8 := Lib.hid (below_grown B7.out k2 B7.out.size (by rintro k ⟨rfl⟩; exact hm1w))
            clear k1 k2 T7 B7 HSt O7
            have hG2 := T8.out.2.good
            have HC := Lib.hid (fun W (h : Tms W b1 m1 (wo l node tag)) => clear_any b1 m1 (wo l node tag) node W h)
            obtain ⟨l2, hl2⟩ : ∃ l2, wo l node tag = l2 := ⟨_, rfl⟩
            rw [hl2] at T8 HC hG2 hcl hl3
            clear hl2
            obtain ⟨h2, hh2⟩ : ∃ h2, (ofNode l2 node).length = h2 := ⟨_, rfl⟩
            rw [hh2] at HC hcl
            clear hh2
            have hG3 := hG2.clear node
            have hnx := next_clear l2 node
            have HC2 := Lib.hid (fun W (h : Tms W b1 m1 (clearL l2 node)) => (of_clear l2 node) ▸ (clear_clear l2 node) ▸ clear_any b1 m1 (clearL l2 node) node W h)
            have HD3 := Lib.hid (fun W (h : Tms W b1 m1 (clearL l2 node)) => (due_clear l2 node) ▸ (left_clear l2 node) ▸ due_any b1 m1 (clearL l2 node) node 1099511627776 W h)
            have HN := Lib.hid (fun W (h : Tms W b1 m1 (clearL l2 node)) => hnx ▸ next_any b1 m1 (clearL l2 node) node W h)
            obtain ⟨l3, hl3'⟩ : ∃ l3, clearL l2 node = l3 := ⟨_, rfl⟩
            rw [hl3'] at HC HC2 HD3 HN hG3 hl3
            clear hl3' hnx
            generalize nextA l3 node = na at HN
            have hh21 : (h2 : Int) + 1 = (h0 : Int) := by omega
            have hh22 : ((h2 : Int) != (h0 : Int) - 1) = false := by simp; omega
            have hh0 : h0 ≤ 64 := by omega
            go_wp2_with fail
            go_at_call 20
            refine (HC.out _ T8.out).mono ?_
            rintro e wb ⟨rfl, k1, k2⟩
            have T9 := Lib.hid k1
            have B9 := Lib.hid (below_grown B8.out k2 B8.out.size (by rintro k ⟨rfl⟩; exact hm1w))
            clear k1 k2 T8 B8 HC
            go_wp2_with fail
            go_at_call 20
            refine (HC2.out _ T9.out).mono ?_
            rintro e wc ⟨rfl, k1, k2⟩
            have T10 := Lib.hid k1
            have B10 := Lib.hid (below_grown B9.out k2 B9.out.size (by rintro k ⟨rfl⟩; exact hm1w))
            clear k1 k2 T9 B9 HC2
            go_wp2_with fail
            go_at_call 18
            refine (HD3.out _ T10.out).mono ?_
            rintro e wd ⟨v3, rfl, k0, k1, k2⟩
            obtain ⟨A3, c3, rfl⟩ := k0.shape
            have T11 := Lib.hid k1
            have B11 := Lib.hid (below_grown B10.out k2 B10.out.size (by rintro k ⟨rfl⟩; exact hm1w))
            clear k0 k1 k2 T10 B10 HD3
            go_wp2_with fail
            go_at_call 13
            refine (HN.out _ T11.out).mono ?_
            rintro e we ⟨rfl, k1⟩
            have hba := k1.trans (((Below.refl we.heap.size we).alloc (Nat.le_refl _) (.cells na.cells 31)).mono k1.size)
            have T12 := Lib.hid (T11.out.below hba)
            have B12 := Lib.hid (B11.out.trans (hba.mono B11.out.size))
            clear k1 hba T11 B11 HN
            go_wp2
            go_loopw [15, 16] (fun nv iv wr => ∃ (cc N : Nat), cc ≤ 8 ∧ iv = .int .i64 cc ∧ nv = .int .i64 N ∧ N + (restN l3 cc).length = l3.length ∧ Tms wr b1 m1 (restN l3 cc) ∧ Below w.heap.size w wr) (fun _ iv _ => 8 - (intOf iv).toNat)
            case atStart => exact ⟨0, 0, by omega, rfl, rfl, by rw [restN_zero hG3]; omega, by rw [restN_zero hG3]; exact T12.out, B12.out⟩
            case round =>
              obtain ⟨cc, N, hcc, rfl, rfl, hN, hT, hB⟩ := hrel
              have T13 := Lib.hid hT
              have B13 := Lib.hid hB
              clear hT hB T12 B12
              have hl3le := hG3.le
              by_cases hlt3 : cc < 8
              · have hlJ : (cc : Int) < 8 := by omega
                have hNI : (N : Int) ≤ 64 := by omega
                have HD4 := Lib.hid (fun W (h : Tms W b1 m1 (restN l3 cc)) => (restN_left hG3 cc) ▸ due_any b1 m1 (restN l3 cc) cc 1099511627776 W h)
                have hlen := filter_len (restN l3 cc) (fun x => decide (x.n = cc ∧ x.a ≤ 1099511627776))
                have hlen2 : (dueL (restN l3 cc) cc 1099511627776).length + (restN l3 (cc + 1)).length = (restN l3 cc).length := by
                  rw [← restN_left hG3 cc]; exact hlen
                generalize dueL (restN l3 cc) cc 1099511627776 = dl at HD4 hlen2
                clear hlen
                go_wp2_with fail
                go_at_call 18
                refine (HD4.out _ T13.out).mono ?_
                rintro e wf ⟨v4, rfl, k0, k1, k2⟩
                obtain ⟨A4, c4, rfl⟩ := k0.shape
                have T14 := Lib.hid k1
                have B14 := Lib.hid (below_grown B13.out k2 B13.out.size (by rintro k ⟨rfl⟩; exact hm1w))
                have hd64 : (dl.length : Int) ≤ 64 := by omega
                clear k0 k1 k2 T13 B13 HD4
                go_wp2
                go_roundw
                case rel => exact ⟨cc + 1, N + dl.length, by omega, by go_num, by go_num, by omega, T14.out, B14.out⟩
                case measure => simp [intOf]; omega
              · have hlJ : ¬ ((cc : Int) < 8) := by omega
                obtain rfl : cc = 8 := by omega
                rw [restN_end hG3] at hN T13
                have hNe : (N : Int) = (l.length : Int) - (h0 : Int) := by simp at hN; omega
                have hNb : ((N : Int) == (l.length : Int) - (h0 : Int)) = true := by rw [beq_iff_eq]; exact hNe
                clear hNe hN
                go_wp2_with fail
                go_at_call 12
                refine (list_any _ _ [] _ T13.out).mono ?_
                rintro e wf ⟨v5, rfl, k1, k2⟩
                obtain ⟨A5, c5, rfl⟩ := k1.shape
                have BZ := Lib.hid (B13.out.trans (k2.mono B13.out.size))
                clear k1 k2 T13 B13
                go_wp2_with fail
                go_at_call 15
                refine (shown_any _).mono ?_
                rintro e wz ⟨rfl, k1⟩
                have Bz := Lib.hid (BZ.out.trans (k1.mono BZ.out.size))
                clear k1
                go_wp2
                go_ret
                exact ⟨rfl, Bz.out⟩
end Go.Proofs.Ytcanagecdniiiaa
