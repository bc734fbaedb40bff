/-
  TimerNext, walked.
-/
import Derived.Test.YtcanagecdniiiaaAlone
namespace Go.Proofs.Ytcanagecdniiiaa
open Go.RowKit

/-- The next alarm of a node is the least of that node. -/
theorem next_least {l : List Al} (h : Good l) {x : Al} (hx : x ∈ l) {node : Int} (hn : x.n = node) : nextB l node = true ∧ (nextA l node).n = node ∧ ¬ (x.a < (nextA l node).a) ∧ ¬ (x.a = (nextA l node).a ∧ x.t < (nextA l node).t) := by
  have hb : nextB l node = true := by unfold nextB; rw [List.any_eq_true]; exact ⟨x, hx, by simpa using hn⟩
  have hs := h.sorted
  clear h
  obtain ⟨hn1, hle⟩ : (nextA l node).n = node ∧ (x = nextA l node ∨ (nextA l node).lt x) := by
    unfold nextA
    induction l with
    | nil => simp at hx
    | cons y l ih =>
      obtain ⟨h1, h2⟩ := List.pairwise_cons.1 hs
      by_cases hy : y.n = node
      · have e : (List.find? (fun x => decide (x.n = node)) (y :: l)) = some y := by simp [hy]
        rw [e]
        refine ⟨hy, ?_⟩
        rcases List.mem_cons.1 hx with rfl | hx
        · exact .inl rfl
        · exact .inr (h1 x hx)
      · have e : (List.find? (fun x => decide (x.n = node)) (y :: l)) = List.find? (fun x => decide (x.n = node)) l := by simp [hy]
        rw [e]
        rcases List.mem_cons.1 hx with rfl | hx
        · exact absurd hn hy
        · exact ih hx (by unfold nextB; rw [List.any_eq_true]; exact ⟨x, hx, by simpa using hn⟩) h2
  refine ⟨hb, hn1, ?_⟩
  rcases hle with e | hlt
  · rw [← e]; omega
  · unfold Al.lt at hlt; omega
/-- It is due first at its time. -/
theorem next_due : ∀ {l : List Al} {node : Int}, nextB l node = true → (dueL l node (nextA l node).a)[0]? = some (nextA l node)
  | [], _, h => by simp [nextB] at h
  | y :: l, node, h => by
    by_cases hy : y.n = node
    · have e : nextA (y :: l) node = y := by unfold nextA; rw [List.find?_cons_of_pos (by simpa using hy)]; rfl
      rw [e]
      unfold dueL
      rw [List.filter_cons_of_pos (by simpa using hy)]; rfl
    · have e : nextA (y :: l) node = nextA l node := by unfold nextA; rw [List.find?_cons_of_neg (by simpa using hy)]
      have e2 : nextB (y :: l) node = nextB l node := by unfold nextB; rw [List.any_cons, decide_eq_false hy, Bool.false_or]
      rw [e]
      rw [e2] at h
      have := next_due h
      unfold dueL at this ⊢
      rw [List.filter_cons_of_neg (by simp [hy])]
      exact this
theorem set_one {l : List Al} (h : Good l) {x : Al} (hx : setE l x = 0) : ((setL l x).filter fun y => decide (y.is x.n x.t)).length = 1 ∧ ∀ y ∈ setL l x, y.is x.n x.t → y = x := by
  have hG := h.set x
  have hm : x ∈ setL l x := by unfold setL; rw [if_pos hx]; exact mem_ins.2 (.inl rfl)
  have hh : hasA (setL l x) x.n x.t = true := hasA_iff.2 ⟨x, hm, rfl, rfl⟩
  have h1 := wo_length hG x.n x.t
  rw [if_pos hh] at h1
  have h2 := filter_len (setL l x) (fun y => decide (y.is x.n x.t))
  refine ⟨by unfold wo at h1; omega, fun y hy hi => key_unique hG hy hm hi.1 hi.2⟩

set_option maxRecDepth 100000 in
set_option maxHeartbeats 8000000 in
theorem nextLaw_any (A : Option Addr) (n c : Nat) (al : Nat → Al) (node tag at' : Int) (w : World) (hS : Als w A n al) :
    Calls Try.prog 6 #[.slice A n c, .int .i64 node, .int .i64 tag, .int .i64 at'] w fun e w' => e = .returned (.bool true) ∧ Below w.heap.size w w' := by
  have HS := Lib.hid hS
  clear hS
  by_cases hn : 60 < n
  · have hnI : (60 : Int) < (n : Int) := by omega
    go_enter Try.func6, Try.ntmps6
    go_wp2
    go_ret
    exact ⟨rfl, Below.refl _ _⟩
  have hnI : ¬ ((60 : Int) < (n : Int)) := by omega
  go_enter Try.func6, Try.ntmps6
  go_wp2_with fail
  go_at_call 8
  refine (new_any _).mono ?_
  rintro e w1 ⟨rfl, k1, k2, k3⟩
  have T1 := Lib.hid k1
  have B1 := Lib.hid k2
  obtain ⟨m1, hm1⟩ : ∃ m1, w.heap.size = m1 := ⟨_, rfl⟩
  obtain ⟨b1, hb1⟩ : ∃ b1, w.heap.size + 1 = b1 := ⟨_, rfl⟩
  have HM1 := Lib.hid hm1
  rw [hb1] at T1 ⊢
  rw [hm1] at T1
  have hm1w : w.heap.size ≤ m1 := Nat.le_of_eq hm1
  clear k1 k2 k3 hm1 hb1 HM1
  go_wp2
  go_loopw [10] (fun iv wr => ∃ (k : Nat) (l : List Al), k ≤ n ∧ iv = .int .i64 k ∧ Tms wr b1 m1 l ∧ Below w.heap.size w wr) (fun iv _ => n - (intOf iv).toNat)
  case atStart => exact ⟨0, [], Nat.zero_le _, rfl, T1.out, B1.out⟩
  case round =>
    obtain ⟨k, l, hk, rfl, hT, hB⟩ := hrel
    have T4 := Lib.hid hT
    have B4 := Lib.hid hB
    clear hT hB T1 B1
    by_cases hlt : k < n
    · have hlI : (k : Int) < (n : Int) := by omega
      have hkI : (0 : Int) ≤ (k : Int) := by omega
      obtain ⟨b, off, rfl, hat⟩ := HS.out k hlt
      have hbl := hat.lt
      have hbr : b < wr.heap.size := by have := B4.out.size; omega
      obtain ⟨c0, c1, c2⟩ := hat.kept' (w' := wr) (fun o => B4.out.cell (p := ⟨b, o, none⟩) hbl)
      generalize al k = x at c0 c1 c2
      clear hat
      have HD := Lib.hid (set_any b1 m1 l x wr T4.out)
      go_wp2_with fail
      go_at_call 16
      refine HD.out.mono ?_
      rintro e wa ⟨rfl, k1, k2⟩
      have T5 := Lib.hid k1
      have B5 := Lib.hid (below_grown B4.out k2 B4.out.size (by rintro k ⟨rfl⟩; exact hm1w))
      clear k1 k2
      go_wp2
      go_roundw
      case rel => exact ⟨k + 1, _, by omega, by go_num, T5.out, B5.out⟩
      case measure => simp [intOf]; omega
    · have hlI : ¬ ((k : Int) < (n : Int)) := by omega
      have hle := T4.out.2.good.le
      have HN1 := Lib.hid (fun W (h : Tms W b1 m1 l) => next_any b1 m1 l node W h)
      have HLst := Lib.hid (fun x hx hxn => next_least (node := node) T4.out.2.good (x := x) hx hxn)
      have HDu := Lib.hid (fun h => next_due (l := l) (node := node) h)
      generalize nextA l node = na at HN1 HLst HDu
      generalize nextB l node = nb at HN1 HLst HDu
      go_wp2_with fail
      go_at_call 13
      refine (HN1.out _ T4.out).mono ?_
      rintro e wa ⟨rfl, k1⟩
      have hba := k1.trans (((Below.refl wa.heap.size wa).alloc (Nat.le_refl _) (.cells na.cells 31)).mono k1.size)
      have X5 := Lib.hid (AB.fresh 31 wa na)
      have T5 := Lib.hid (T4.out.below hba)
      have B5 := Lib.hid (B4.out.trans (hba.mono B4.out.size))
      clear k1 hba
      go_wp2_with fail
      go_at_call 12
      refine (list_any _ _ l _ T5.out).mono ?_
      rintro e wb ⟨v, rfl, k1, k2⟩
      obtain ⟨A9, c9, rfl⟩ := k1.shape
      have O6 := Lib.hid k1
      have T6 := Lib.hid (T5.out.below k2)
      have X6 := Lib.hid (X5.out.below k2)
      have B6 := Lib.hid (B5.out.trans (k2.mono B5.out.size))
      generalize (wa.alloc (.cells na.cells 31)).heap.size = zb at O6
      generalize wa.heap.size = z at X6 ⊢
      clear k1 k2 X5 T5 B5 T4 B4
      go_wp2
      go_loopw [14] (fun iv wr => ∃ (k : Nat), k ≤ l.length ∧ iv = .int .i64 k ∧ Tms wr b1 m1 l ∧ Owns 31 wr zb (.slice A9 l.length c9) l ∧ AB 31 wr z na ∧ Below w.heap.size w wr) (fun iv _ => l.length - (intOf iv).toNat)
      case atStart => exact ⟨0, Nat.zero_le _, rfl, T6.out, O6.out, X6.out, B6.out⟩
      case round =>
        obtain ⟨k2, hk2, rfl, hT, hO, hX, hB⟩ := hrel
        have T7 := Lib.hid hT
        have O7 := Lib.hid hO
        have X7 := Lib.hid hX
        have B7 := Lib.hid hB
        clear hT hO hX hB T6 O6 X6 B6
        by_cases hlt2 : k2 < l.length
        · have hlJ : (k2 : Int) < (l.length : Int) := by omega
          have hkJ : (0 : Int) ≤ (k2 : Int) := by omega
          rcases O7.out.form with ⟨-, rfl⟩ | ⟨g, cap', e1, -, -, -, -, hat⟩
          · simp at hlt2
          cases e1
          obtain ⟨m, hm⟩ : ∃ m, l[k2]? = some m := ⟨_, List.getElem?_eq_getElem hlt2⟩
          obtain ⟨c0, c1, c2⟩ := hat k2 m hm
          obtain ⟨d0, d1, d2⟩ := X7.out.all
          have hmem := List.mem_of_getElem? hm
          have hbd : Below wr.heap.size wr (wr.drewN 1) := below_drewN (Below.refl _ _) 1
          clear hat hm
          by_cases hq : m.n = node
          · obtain ⟨rfl, g2, g3, g4⟩ := HLst.out m hmem hq
            have p2 : decide (m.a < na.a) = false := by simpa using g3
            have p1 : (m.n == node) = true := by simpa using hq
            clear hq g2 g3 hmem
            by_cases ha : m.a = na.a
            · have p3 : (m.a == na.a) = true := by simpa using ha
              have p4 : decide (m.t < na.t) = false := decide_eq_false (fun h => g4 ⟨ha, h⟩)
              clear ha g4
              go_wp2
              go_quiet (fail)
              go_wp2
              go_roundw
              case rel => exact ⟨k2 + 1, by omega, by go_num, T7.out.below (below_drewN (Below.refl _ _) _), O7.out.below (below_drewN (Below.refl _ _) _), X7.out.below (below_drewN (Below.refl _ _) _), below_drewN B7.out _⟩
              case measure => simp [intOf]; omega
            · have p3 : (m.a == na.a) = false := by simpa using ha
              clear ha g4
              go_wp2
              go_quiet (fail)
              go_wp2
              go_roundw
              case rel => exact ⟨k2 + 1, by omega, by go_num, T7.out.below (below_drewN (Below.refl _ _) _), O7.out.below (below_drewN (Below.refl _ _) _), X7.out.below (below_drewN (Below.refl _ _) _), below_drewN B7.out _⟩
              case measure => simp [intOf]; omega
          · have p1 : (m.n == node) = false := by simpa using hq
            clear hq hmem
            go_wp2
            go_quiet (fail)
            go_wp2
            go_roundw
            case rel => exact ⟨k2 + 1, by omega, by go_num, T7.out.below (below_drewN (Below.refl _ _) _), O7.out.below (below_drewN (Below.refl _ _) _), X7.out.below (below_drewN (Below.refl _ _) _), below_drewN B7.out _⟩
            case measure => simp [intOf]; omega
        · have hlJ : ¬ ((k2 : Int) < (l.length : Int)) := by omega
          clear hk2 hlt2
          rcases nb.eq_false_or_eq_true.symm with hnb | hnb
          · subst hnb
            obtain ⟨l1, hl1⟩ : ∃ l1, l = l1 := ⟨_, rfl⟩
            have T8 := Lib.hid (show Tms wr b1 m1 l1 from hl1 ▸ T7.out)
            have B8 := Lib.hid B7.out
            obtain ⟨w8, hw8⟩ : ∃ w8, wr = w8 := ⟨_, rfl⟩
            rw [hw8] at T8 B8 ⊢
            clear hl1 hw8 T7 X7 B7
            have hG1 := Lib.hid T8.out.2.good
            have HD := Lib.hid (fun W (h : Tms W b1 m1 l1) => set_any b1 m1 l1 ⟨node, at', tag⟩ W h)
            have hba : Below w8.heap.size w8 (w8.alloc (.cells (Al.cells ⟨node, at', tag⟩) 31)) := (Below.refl _ _).alloc (Nat.le_refl _) _
            have T9 := Lib.hid (T8.out.below hba)
            have X9 := Lib.hid (AB.fresh 31 w8 ⟨node, at', tag⟩)
            have B9 := Lib.hid (B8.out.trans (hba.mono B8.out.size))
            have hz8 : w8.heap.size < (w8.alloc (.cells (Al.cells ⟨node, at', tag⟩) 31)).heap.size := by simp
            have hm18 : m1 < w8.heap.size := T8.out.2.lt
            by_cases hse : setE l1 ⟨node, at', tag⟩ = 0
            · obtain ⟨hone, hall⟩ := set_one hG1.out hse
              rw [hse] at HD
              have HOne := Lib.hid hone
              have HAll := Lib.hid hall
              have hG2 := hG1.out.set ⟨node, at', tag⟩
              have hle2 := hG2.le
              generalize setL l1 ⟨node, at', tag⟩ = l2 at HD HOne HAll hG2 hle2
              clear hba hse hone hall hG2 T8 B8
              go_wp2_with fail
              go_at_call 16
              refine (HD.out _ T9.out).mono ?_
              rintro e wc ⟨rfl, k1, k2⟩
              have T10 := Lib.hid k1
              have X10 := Lib.hid (show AB 31 wc w8.heap.size ⟨node, at', tag⟩ from by unfold AB; rw [k2.block _ hz8 (fun e => by have := Option.some.inj e; omega)]; exact X9.out)
              have B10 := Lib.hid (below_grown B9.out k2 B9.out.size (by rintro k ⟨rfl⟩; exact hm1w))
              clear k1 k2 T9 X9 B9 HD hz8 hm18
              generalize w8.heap.size = z2 at X10 ⊢
              go_wp2_with fail
              go_at_call 12
              refine (list_any _ _ l2 _ T10.out).mono ?_
              rintro e wd ⟨v2, rfl, k1, k2⟩
              obtain ⟨A11, c11, rfl⟩ := k1.shape
              have O11 := Lib.hid k1
              have X11 := Lib.hid (X10.out.below k2)
              have B11 := Lib.hid (B10.out.trans (k2.mono B10.out.size))
              generalize wc.heap.size = zc at O11
              clear k1 k2 X10 T10 B10
              go_wp2
              go_loopw [17, 18] (fun mv iv wr => ∃ (k : Nat), k ≤ l2.length ∧ iv = .int .i64 k ∧ mv = .int .i64 (((l2.take k).filter fun y => decide (y.is node tag)).length : Nat) ∧ Owns 31 wr zc (.slice A11 l2.length c11) l2 ∧ AB 31 wr z2 ⟨node, at', tag⟩ ∧ Below w.heap.size w wr) (fun _ iv _ => l2.length - (intOf iv).toNat)
              case atStart => exact ⟨0, Nat.zero_le _, rfl, rfl, O11.out, X11.out, B11.out⟩
              case round =>
                obtain ⟨k3, hk3, rfl, rfl, hO, hX, hB⟩ := hrel
                have O12 := Lib.hid hO
                have X12 := Lib.hid hX
                have B12 := Lib.hid hB
                clear hO hX hB O11 X11 B11
                by_cases hlt3 : k3 < l2.length
                · have hlJ : (k3 : Int) < (l2.length : Int) := by omega
                  have hkJ : (0 : Int) ≤ (k3 : Int) := by omega
                  rcases O12.out.form with ⟨-, rfl⟩ | ⟨g, cap', e1, -, -, -, -, hat⟩
                  · simp at hlt3
                  cases e1
                  obtain ⟨m, hm⟩ : ∃ m, l2[k3]? = some m := ⟨_, List.getElem?_eq_getElem hlt3⟩
                  obtain ⟨c0, c1, c2⟩ := hat k3 m hm
                  obtain ⟨d0, d1, d2⟩ := X12.out.all
                  have hmem := List.mem_of_getElem? hm
                  have hcnt : ((l2.take k3).filter fun y => decide (y.is node tag)).length ≤ l2.length := filter_take_le _ _ _
                  clear hat
                  by_cases hi : m.is node tag
                  · have e3 := filter_take_yes l2 (fun y => decide (y.is node tag)) k3 m hm (by simpa using hi)
                    obtain rfl := HAll.out m hmem hi
                    have E3 := Lib.hid (by have h9 := congrArg List.length e3; rwa [List.length_append, List.length_singleton] at h9)
                    have hq := fun w => (decide_eq_true (rfl : Al.mk node at' tag = Al.mk node at' tag)) ▸ al_neq31 ⟨node, at', tag⟩ ⟨node, at', tag⟩ w
                    simp only [Bool.not_true] at hq
                    generalize ((l2.take k3).filter fun y => decide (y.is node tag)).length = cnt at hcnt E3 ⊢
                    have hc1 : (cnt : Int) ≤ 64 := by omega
                    have hc0 : (0 : Int) ≤ (cnt : Int) := by omega
                    clear e3 hi hm hmem
                    go_wp2
                    go_quiet (fail)
                    go_wp2
                    go_roundw
                    case rel => exact ⟨k3 + 1, by omega, by go_num, by rw [E3.out]; rfl, O12.out.below (below_drewN (Below.refl _ _) _), X12.out.below (below_drewN (Below.refl _ _) _), below_drewN B12.out _⟩
                    case measure => simp [intOf]; omega
                  · have e3 := filter_take_no l2 (fun y => decide (y.is node tag)) k3 m hm (by simpa using hi)
                    have E3 := Lib.hid (congrArg List.length e3)
                    have hor : (m.n == node) = false ∨ ((m.n == node) = true ∧ (m.t == tag) = false) := by
                      by_cases hq : m.n = node
                      · exact .inr ⟨by simpa using hq, by simpa using (fun hq2 => hi ⟨hq, hq2⟩ : ¬ (m.t = tag))⟩
                      · exact .inl (by simpa using hq)
                    generalize ((l2.take k3).filter fun y => decide (y.is node tag)).length = cnt at hcnt E3 ⊢
                    clear e3 hi hm hmem
                    rcases hor with p1 | ⟨p1, p2⟩
                    all_goals
                      go_wp2
                      go_roundw
                      case rel => exact ⟨k3 + 1, by omega, by go_num, by rw [E3.out], O12.out, X12.out, B12.out⟩
                      case measure => simp [intOf]; omega
                · have hlJ : ¬ ((k3 : Int) < (l2.length : Int)) := by omega
                  obtain rfl : k3 = l2.length := by omega
                  rw [List.take_length, HOne.out]
                  have BZ := Lib.hid B12.out
                  clear O12 X12
                  go_wp2_with fail
                  go_at_call 15
                  refine (shown_any _).mono ?_
                  rintro e wz ⟨rfl, k1⟩
                  have Bz := Lib.hid (BZ.out.trans (k1.mono BZ.out.size))
                  clear k1
                  go_wp2
                  go_ret
                  exact ⟨rfl, Bz.out⟩
            · have hse1 : (setE l1 ⟨node, at', tag⟩ == 0) = false := by simpa using hse
              generalize setE l1 ⟨node, at', tag⟩ = se at HD hse1
              clear hba hse T8 B8 hz8 hm18 X9
              go_wp2_with fail
              go_at_call 16
              refine (HD.out _ T9.out).mono ?_
              rintro e wc ⟨rfl, k1, k2⟩
              have BZ := Lib.hid (below_grown B9.out k2 B9.out.size (by rintro k ⟨rfl⟩; exact hm1w))
              clear k1 k2 T9 B9 HD
              go_wp2_with fail
              go_at_call 15
              refine (shown_any _).mono ?_
              rintro e wz ⟨rfl, k1⟩
              have Bz := Lib.hid (BZ.out.trans (k1.mono BZ.out.size))
              clear k1
              go_wp2
              go_ret
              exact ⟨rfl, Bz.out⟩
          · subst hnb
            have hd0 := HDu.out rfl
            have HDue := Lib.hid (due_any b1 m1 l node na.a wr T7.out)
            obtain ⟨d0, d1, d2⟩ := X7.out.all
            have hm17 : z ≠ m1 := fun e => T7.out.2.ne_cells d0 e.symm
            go_wp2_with fail
            go_at_call 18
            refine HDue.out.mono ?_
            rintro e w8 ⟨v2, rfl, k0, k1, k2⟩
            have T8' := Lib.hid k1
            have X8 := Lib.hid (show AB 31 w8 z na from by unfold AB; rw [k2.block _ X7.out.lt (fun e => hm17 (Option.some.inj e))]; exact X7.out)
            have B8' := Lib.hid (below_grown B7.out k2 B7.out.size (by rintro k ⟨rfl⟩; exact hm1w))
            clear k1 k2 d0 d1 d2
            rcases k0.form with ⟨-, h9⟩ | ⟨g, cap', rfl, -, -, -, -, hat⟩
            · rw [h9] at hd0; simp at hd0
            obtain ⟨c0, c1, c2⟩ := hat 0 na hd0
            obtain ⟨d0, d1, d2⟩ := X8.out.all
            have hdl : 0 < (dueL l node na.a).length := (List.getElem?_eq_some_iff.1 hd0).1
            have hdl1 : (((dueL l node na.a).length : Int) == 0) = false := by rw [beq_eq_false_iff_ne]; omega
            have hdl2 : (0 : Int) < ((dueL l node na.a).length : Int) := by omega
            have hq := fun w => (decide_eq_true (rfl : na = na)) ▸ al_neq31 na na w
            simp only [Bool.not_true] at hq
            simp only [Nat.zero_mul] at c0 c1 c2
            generalize (dueL l node na.a).length = dl at hdl hdl1 hdl2
            clear hat k0 T7 X7 B7 HDue hd0
            go_wp2
            go_quiet (fail)
            obtain ⟨l1, hl1⟩ : ∃ l1, leftL l node na.a = l1 := ⟨_, rfl⟩
            have hbq : Below w8.heap.size w8 (w8.drewN nq) := below_drewN (Below.refl _ _) nq
            rw [hl1] at T8'
            have T8q := Lib.hid (T8'.out.below hbq)
            have B8q := Lib.hid (B8'.out.trans (hbq.mono B8'.out.size))
            clear T8' B8' X8 hl1 hbq c0 c1 c2 d0 d1 d2 hq
            generalize w8.drewN nq = w8 at T8q B8q ⊢
            have T8 := T8q
            have B8 := B8q
            clear T8q B8q
            have hG1 := Lib.hid T8.out.2.good
            have HD := Lib.hid (fun W (h : Tms W b1 m1 l1) => set_any b1 m1 l1 ⟨node, at', tag⟩ W h)
            have hba : Below w8.heap.size w8 (w8.alloc (.cells (Al.cells ⟨node, at', tag⟩) 31)) := (Below.refl _ _).alloc (Nat.le_refl _) _
            have T9 := Lib.hid (T8.out.below hba)
            have X9 := Lib.hid (AB.fresh 31 w8 ⟨node, at', tag⟩)
            have B9 := Lib.hid (B8.out.trans (hba.mono B8.out.size))
            have hz8 : w8.heap.size < (w8.alloc (.cells (Al.cells ⟨node, at', tag⟩) 31)).heap.size := by simp
            have hm18 : m1 < w8.heap.size := T8.out.2.lt
            by_cases hse : setE l1 ⟨node, at', tag⟩ = 0
            · obtain ⟨hone, hall⟩ := set_one hG1.out hse
              rw [hse] at HD
              have HOne := Lib.hid hone
              have HAll := Lib.hid hall
              have hG2 := hG1.out.set ⟨node, at', tag⟩
              have hle2 := hG2.le
              generalize setL l1 ⟨node, at', tag⟩ = l2 at HD HOne HAll hG2 hle2
              clear hba hse hone hall hG2 T8 B8
              go_wp2_with fail
              go_at_call 16
              refine (HD.out _ T9.out).mono ?_
              rintro e wc ⟨rfl, k1, k2⟩
              have T10 := Lib.hid k1
              have X10 := Lib.hid (show AB 31 wc w8.heap.size ⟨node, at', tag⟩ from by unfold AB; rw [k2.block _ hz8 (fun e => by have := Option.some.inj e; omega)]; exact X9.out)
              have B10 := Lib.hid (below_grown B9.out k2 B9.out.size (by rintro k ⟨rfl⟩; exact hm1w))
              clear k1 k2 T9 X9 B9 HD hz8 hm18
              generalize w8.heap.size = z2 at X10 ⊢
              go_wp2_with fail
              go_at_call 12
              refine (list_any _ _ l2 _ T10.out).mono ?_
              rintro e wd ⟨v2, rfl, k1, k2⟩
              obtain ⟨A11, c11, rfl⟩ := k1.shape
              have O11 := Lib.hid k1
              have X11 := Lib.hid (X10.out.below k2)
              have B11 := Lib.hid (B10.out.trans (k2.mono B10.out.size))
              generalize wc.heap.size = zc at O11
              clear k1 k2 X10 T10 B10
              go_wp2
              go_loopw [17, 18] (fun mv iv wr => ∃ (k : Nat), k ≤ l2.length ∧ iv = .int .i64 k ∧ mv = .int .i64 (((l2.take k).filter fun y => decide (y.is node tag)).length : Nat) ∧ Owns 31 wr zc (.slice A11 l2.length c11) l2 ∧ AB 31 wr z2 ⟨node, at', tag⟩ ∧ Below w.heap.size w wr) (fun _ iv _ => l2.length - (intOf iv).toNat)
              case atStart => exact ⟨0, Nat.zero_le _, rfl, rfl, O11.out, X11.out, B11.out⟩
              case round =>
                obtain ⟨k3, hk3, rfl, rfl, hO, hX, hB⟩ := hrel
                have O12 := Lib.hid hO
                have X12 := Lib.hid hX
                have B12 := Lib.hid hB
                clear hO hX hB O11 X11 B11
                by_cases hlt3 : k3 < l2.length
                · have hlJ : (k3 : Int) < (l2.length : Int) := by omega
                  have hkJ : (0 : Int) ≤ (k3 : Int) := by omega
                  rcases O12.out.form with ⟨-, rfl⟩ | ⟨g, cap', e1, -, -, -, -, hat⟩
                  · simp at hlt3
                  cases e1
                  obtain ⟨m, hm⟩ : ∃ m, l2[k3]? = some m := ⟨_, List.getElem?_eq_getElem hlt3⟩
                  obtain ⟨c0, c1, c2⟩ := hat k3 m hm
                  obtain ⟨d0, d1, d2⟩ := X12.out.all
                  have hmem := List.mem_of_getElem? hm
                  have hcnt : ((l2.take k3).filter fun y => decide (y.is node tag)).length ≤ l2.length := filter_take_le _ _ _
                  clear hat
                  by_cases hi : m.is node tag
                  · have e3 := filter_take_yes l2 (fun y => decide (y.is node tag)) k3 m hm (by simpa using hi)
                    obtain rfl := HAll.out m hmem hi
                    have E3 := Lib.hid (by have h9 := congrArg List.length e3; rwa [List.length_append, List.length_singleton] at h9)
                    have hq := fun w => (decide_eq_true (rfl : Al.mk node at' tag = Al.mk node at' tag)) ▸ al_neq31 ⟨node, at', tag⟩ ⟨node, at', tag⟩ w
                    simp only [Bool.not_true] at hq
                    generalize ((l2.take k3).filter fun y => decide (y.is node tag)).length = cnt at hcnt E3 ⊢
                    have hc1 : (cnt : Int) ≤ 64 := by omega
                    have hc0 : (0 : Int) ≤ (cnt : Int) := by omega
                    clear e3 hi hm hmem
                    go_wp2
                    go_quiet (fail)
                    go_wp2
                    go_roundw
                    case rel => exact ⟨k3 + 1, by omega, by go_num, by rw [E3.out]; rfl, O12.out.below (below_drewN (Below.refl _ _) _), X12.out.below (below_drewN (Below.refl _ _) _), below_drewN B12.out _⟩
                    case measure => simp [intOf]; omega
                  · have e3 := filter_take_no l2 (fun y => decide (y.is node tag)) k3 m hm (by simpa using hi)
                    have E3 := Lib.hid (congrArg List.length e3)
                    have hor : (m.n == node) = false ∨ ((m.n == node) = true ∧ (m.t == tag) = false) := by
                      by_cases hq : m.n = node
                      · exact .inr ⟨by simpa using hq, by simpa using (fun hq2 => hi ⟨hq, hq2⟩ : ¬ (m.t = tag))⟩
                      · exact .inl (by simpa using hq)
                    generalize ((l2.take k3).filter fun y => decide (y.is node tag)).length = cnt at hcnt E3 ⊢
                    clear e3 hi hm hmem
                    rcases hor with p1 | ⟨p1, p2⟩
                    all_goals
                      go_wp2
                      go_roundw
                      case rel => exact ⟨k3 + 1, by omega, by go_num, by rw [E3.out], O12.out, X12.out, B12.out⟩
                      case measure => simp [intOf]; omega
                · have hlJ : ¬ ((k3 : Int) < (l2.length : Int)) := by omega
                  obtain rfl : k3 = l2.length := by omega
                  rw [List.take_length, HOne.out]
                  have BZ := Lib.hid B12.out
                  clear O12 X12
                  go_wp2_with fail
                  go_at_call 15
                  refine (shown_any _).mono ?_
                  rintro e wz ⟨rfl, k1⟩
                  have Bz := Lib.hid (BZ.out.trans (k1.mono BZ.out.size))
                  clear k1
                  go_wp2
                  go_ret
                  exact ⟨rfl, Bz.out⟩
            · have hse1 : (setE l1 ⟨node, at', tag⟩ == 0) = false := by simpa using hse
              generalize setE l1 ⟨node, at', tag⟩ = se at HD hse1
              clear hba hse T8 B8 hz8 hm18 X9
              go_wp2_with fail
              go_at_call 16
              refine (HD.out _ T9.out).mono ?_
              rintro e wc ⟨rfl, k1, k2⟩
              have BZ := Lib.hid (below_grown B9.out k2 B9.out.size (by rintro k ⟨rfl⟩; exact hm1w))
              clear k1 k2 T9 B9 HD
              go_wp2_with fail
              go_at_call 15
              refine (shown_any _).mono ?_
              rintro e wz ⟨rfl, k1⟩
              have Bz := Lib.hid (BZ.out.trans (k1.mono BZ.out.size))
              clear k1
              go_wp2
              go_ret
              exact ⟨rfl, Bz.out⟩
end Go.Proofs.Ytcanagecdniiiaa
