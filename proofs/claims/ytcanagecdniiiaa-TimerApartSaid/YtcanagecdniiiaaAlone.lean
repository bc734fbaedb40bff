/-
  TimerApart, walked.
-/
import Derived.Test.YtcanagecdniiiaaSteps
namespace Go.Proofs.Ytcanagecdniiiaa
open Go.RowKit

theorem mem_setL {l : List Al} {x y : Al} (hok : x.ok) (hl : l.length < 64) : y ∈ setL l x ↔ y = x ∨ (y ∈ l ∧ ¬ y.is x.n x.t) := by
  have he : setE l x = 0 := by
    unfold setE
    rw [if_neg (by simpa using hok), if_neg (by omega)]
  unfold setL
  rw [if_pos he, mem_ins, mem_wo]
theorem setL_no {l : List Al} {x : Al} (hok : ¬ x.ok) : setL l x = l := by
  unfold setL setE
  rw [if_pos hok]; rfl
theorem mem_ofNode {l : List Al} {n : Int} {y : Al} : y ∈ ofNode l n ↔ y ∈ l ∧ y.n = n := by unfold ofNode; simp [List.mem_filter]
theorem Good.ofNode {l : List Al} (h : Good l) (n : Int) : Good (ofNode l n) := h.filter _
theorem nxt_length (l : List Al) (o : Stp) : (nxt l o).length ≤ l.length + 1 := by
  unfold nxt
  repeat' split
  · unfold setL
    split
    · rw [ins_length]; have : (wo l o.a.n o.a.t).length ≤ l.length := List.length_filter_le _ _; omega
    · omega
  · exact Nat.le_succ_of_le (List.length_filter_le _ _)
  · exact Nat.le_succ_of_le (List.length_filter_le _ _)
  · exact Nat.le_succ_of_le (List.length_filter_le _ _)
  · omega
/-- What a step leaves of a node is what it leaves of that node's alarms alone. -/
theorem apart_step {l : List Al} {node : Int} {o : Stp} (h : Good l) (hl : l.length < 64) : (if o.a.n = node then nxt (ofNode l node) o else ofNode l node) = ofNode (nxt l o) node := by
  have hlo : (ofNode l node).length < 64 := Nat.lt_of_le_of_lt (List.length_filter_le _ _) hl
  have hg := h.ofNode node
  refine sorted_unique _ _ ?_ ((h.nxt o).ofNode node).sorted fun y => ?_
  · split
    · exact (hg.nxt o).sorted
    · exact hg.sorted
  · rw [mem_ofNode]
    split
    · rename_i hn
      unfold nxt
      repeat' split
      · by_cases hok : o.a.ok
        · rw [mem_setL hok hlo, mem_setL hok hl, mem_ofNode]
          constructor
          · rintro (rfl | ⟨⟨h1, h2⟩, h3⟩)
            · exact ⟨.inl rfl, hn⟩
            · exact ⟨.inr ⟨h1, h3⟩, h2⟩
          · rintro ⟨rfl | ⟨h1, h3⟩, h2⟩
            · exact .inl rfl
            · exact .inr ⟨⟨h1, h2⟩, h3⟩
        · rw [setL_no hok, setL_no hok, mem_ofNode]
      · rw [mem_wo, mem_wo, mem_ofNode]; constructor <;> (rintro ⟨h1, h2⟩; exact ⟨⟨h1.1, by first | exact h2 | exact h1.2⟩, by first | exact h1.2 | exact h2⟩)
      · unfold leftL ofNode; simp only [List.mem_filter]; constructor <;> (rintro ⟨⟨h1, h2⟩, h3⟩; exact ⟨⟨h1, by simpa using h3⟩, by simpa using h2⟩)
      · unfold clearL ofNode; simp only [List.mem_filter]; constructor <;> (rintro ⟨⟨h1, h2⟩, h3⟩; exact ⟨⟨h1, by simpa using h3⟩, by simpa using h2⟩)
      · rw [mem_ofNode]
    · rename_i hn
      rw [mem_ofNode]
      unfold nxt
      repeat' split
      · by_cases hok : o.a.ok
        · rw [mem_setL hok hl]
          constructor
          · rintro ⟨h1, h2⟩; exact ⟨.inr ⟨h1, fun hi => hn (hi.1.symm.trans h2)⟩, h2⟩
          · rintro ⟨rfl | ⟨h1, -⟩, h2⟩
            · exact absurd h2 hn
            · exact ⟨h1, h2⟩
        · rw [setL_no hok]
      · rw [mem_wo]
        constructor
        · rintro ⟨h1, h2⟩; exact ⟨⟨h1, fun hi => hn (hi.1.symm.trans h2)⟩, h2⟩
        · rintro ⟨⟨h1, -⟩, h2⟩; exact ⟨h1, h2⟩
      · unfold leftL
        rw [List.mem_filter]
        constructor
        · rintro ⟨h1, h2⟩; exact ⟨⟨h1, by rw [decide_eq_false (fun hc => hn (hc.1.symm.trans h2))]; rfl⟩, h2⟩
        · rintro ⟨⟨h1, -⟩, h2⟩; exact ⟨h1, h2⟩
      · unfold clearL
        rw [List.mem_filter]
        constructor
        · rintro ⟨h1, h2⟩; exact ⟨⟨h1, by rw [decide_eq_false (fun hc => hn (hc.symm.trans h2))]; rfl⟩, h2⟩
        · rintro ⟨⟨h1, -⟩, h2⟩; exact ⟨h1, h2⟩
      · exact Iff.rfl
theorem ofNode_ofNode (l : List Al) (n : Int) : ofNode (ofNode l n) n = ofNode l n := by
  unfold ofNode; rw [List.filter_filter]; apply List.filter_congr; intro x _; simp
theorem clear_ofNode (l : List Al) (n : Int) : clearL (ofNode l n) n = [] := by
  unfold clearL ofNode; rw [List.filter_filter, List.filter_eq_nil_iff]; intro x _; simp
theorem next_ofNode (l : List Al) (n : Int) : nextA (ofNode l n) n = nextA l n ∧ nextB (ofNode l n) n = nextB l n := by
  unfold nextA nextB ofNode
  constructor
  · congr 1
    induction l with
    | nil => rfl
    | cons x l ih => by_cases hx : x.n = n <;> simp [hx, ih]
  · rw [List.any_filter]; congr 1; funext x; simp

/-- Two timers beside one another. -/
structure TT (w : World) (b1 m1 : Nat) (l : List Al) (b2 m2 : Nat) (k : List Al) : Prop where
  h1 : Tms w b1 m1 l
  h2 : Tms w b2 m2 k
  ne : m1 ≠ m2
theorem TT.swap {w : World} {b1 m1 b2 m2 : Nat} {l k : List Al} (h : TT w b1 m1 l b2 m2 k) : TT w b2 m2 k b1 m1 l := ⟨h.h2, h.h1, Ne.symm h.ne⟩
theorem TT.below {w w' : World} {b1 m1 b2 m2 : Nat} {l k : List Al} (h : TT w b1 m1 l b2 m2 k) (hb : Below w.heap.size w w') : TT w' b1 m1 l b2 m2 k := ⟨h.h1.below hb, h.h2.below hb, h.ne⟩
/-- The first one turns. -/
theorem TT.step {w w' : World} {b1 m1 b2 m2 : Nat} {l l' k : List Al} (h : TT w b1 m1 l b2 m2 k) (hT : Tms w' b1 m1 l') (hg : w.grownBy w' (some m1)) : TT w' b1 m1 l' b2 m2 k :=
  ⟨hT, h.h2.kept hg (fun e => h.h1.2.ne_cells h.h2.1 (Option.some.inj e).symm) (fun e => h.ne (Option.some.inj e).symm), h.ne⟩
/-- Timers stay while others, and a block of cells, turn. -/
theorem Tms.g2 {w w' : World} {b1 m1 b2 m2 B : Nat} {l k : List Al} {v : Value} (h : TT w b1 m1 l b2 m2 k) (hc : w.cell? ⟨B, 0, none⟩ = some v) (hB : b2 ≠ B) (hg : G2 m1 B w w') : Tms w' b2 m2 k := by
  have hb : w'.heap[b2]? = w.heap[b2]? := hg.block b2 h.h2.lt (fun e => h.h1.2.ne_cells h.h2.1 e.symm) hB
  have hm : w'.heap[m2]? = w.heap[m2]? := hg.block m2 h.h2.2.lt (Ne.symm h.ne) (h.h2.2.ne_cells hc)
  obtain ⟨c, ⟨D, ⟨es, clock, h1, h2⟩, h3⟩⟩ := h.h2
  exact ⟨(World.cell?_of_block (w := w) (a := ⟨b2, 0, none⟩) hb).trans c, D, ⟨es, clock, hm.trans h1, h2⟩, h3⟩

theorem G2.cell {m B : Nat} {w w' : World} (h : G2 m B w w') {c : Nat} (hc : c < w.heap.size) (h1 : c ≠ m) (h2 : c ≠ B) (o : Nat) : w'.cell? ⟨c, o, none⟩ = w.cell? ⟨c, o, none⟩ :=
  World.cell?_of_block (h.block c hc h1 h2)
/-- The cells of a step, laid anew beside new timers. -/
theorem step_box (w : World) (o : Stp) (x : Obj) (i : Nat) (v : Value) (h : o.cells[i]? = some v) : ((w.alloc (.cells o.cells 33)).alloc x).cell? ⟨w.heap.size, i, none⟩ = some v := by
  have hb : Below (w.heap.size + 1) (w.alloc (.cells o.cells 33)) ((w.alloc (.cells o.cells 33)).alloc x) := (Below.refl _ _).alloc (by simp) _
  rw [hb.cell (p := ⟨w.heap.size, i, none⟩) (Nat.lt_succ_self _)]
  have h1 := heap_alloc_new w (.cells o.cells 33)
  unfold World.cell?; simp only [h1]; simpa using h

set_option maxRecDepth 100000 in
set_option maxHeartbeats 8000000 in
theorem alone_any (A : Option Addr) (n c : Nat) (st : Nat → Stp) (node : Int) (w : World) (hS : Steps w A n st) :
    Calls Try.prog 5 #[.slice A n c, .int .i64 node] w fun e w' => e = .returned (.bool true) ∧ Below w.heap.size w w' := by
  have HS := Lib.hid hS
  clear hS
  by_cases hn : 60 < n
  · have hnI : (60 : Int) < (n : Int) := by omega
    go_enter Try.func5, Try.ntmps5
    go_wp2
    go_ret
    exact ⟨rfl, Below.refl _ _⟩
  have hnI : ¬ ((60 : Int) < (n : Int)) := by omega
  go_enter Try.func5, Try.ntmps5
  go_wp2_with fail
  go_at_call 8
  refine (new_any _).mono ?_
  rintro e w1 ⟨rfl, k1, k2, k3⟩
  have T1 := Lib.hid k1
  have B1 := Lib.hid k2
  have Z1 := Lib.hid k3
  obtain ⟨m1, hm1⟩ : ∃ m1, w.heap.size = m1 := ⟨_, rfl⟩
  obtain ⟨b1, hb1⟩ : ∃ b1, w.heap.size + 1 = b1 := ⟨_, rfl⟩
  have HM1 := Lib.hid hm1
  have HB1 := Lib.hid hb1
  rw [hb1] at T1 ⊢
  rw [hm1] at T1
  clear k1 k2 k3 hm1 hb1
  go_wp2_with fail
  go_at_call 8
  refine (new_any _).mono ?_
  rintro e w2 ⟨rfl, k1, k2, k3⟩
  have TT2 := Lib.hid (show TT w2 b1 m1 [] (w1.heap.size + 1) w1.heap.size [] from ⟨T1.out.below k2, k1, by have := T1.out.2.lt; omega⟩)
  have B2 := Lib.hid (B1.out.trans (k2.mono B1.out.size))
  obtain ⟨m2, hm2⟩ : ∃ m2, w1.heap.size = m2 := ⟨_, rfl⟩
  obtain ⟨b2, hb2⟩ : ∃ b2, w1.heap.size + 1 = b2 := ⟨_, rfl⟩
  have HM2 := Lib.hid hm2
  have HB2 := Lib.hid hb2
  have hz1 : w.heap.size ≤ w1.heap.size := B1.out.size
  rw [hb2] at TT2 ⊢
  rw [hm2] at TT2 hz1
  clear k1 k2 k3 hm2 hb2 T1 B1
  go_wp2
  go_loopw [7] (fun iv wr => ∃ (k : Nat) (l : List Al), k ≤ n ∧ iv = .int .i64 k ∧ l.length ≤ k ∧ TT wr b1 m1 l b2 m2 (ofNode l node) ∧ Below w.heap.size w wr) (fun iv _ => n - (intOf iv).toNat)
  case atStart => exact ⟨0, [], Nat.zero_le _, rfl, Nat.le_refl _, TT2.out, B2.out⟩
  case round =>
    obtain ⟨k, l, hk, rfl, hlk, hT, hB⟩ := hrel
    have T4 := Lib.hid hT
    have B4 := Lib.hid hB
    clear hT hB TT2 B2
    by_cases hlt : k < n
    · have hlI : (k : Int) < (n : Int) := by omega
      have hkI : (0 : Int) ≤ (k : Int) := by omega
      obtain ⟨b, off, rfl, hat⟩ := HS.out k hlt
      have hbl := hat.lt
      have hbr : b < wr.heap.size := by have := B4.out.size; omega
      obtain ⟨c0, c1, c2, c3, wn, wt⟩ := hat.kept (w' := wr) (fun o => B4.out.cell (p := ⟨b, o, none⟩) hbl)
      have hstep := apart_step (o := st k) (node := node) T4.out.h1.2.good (by omega)
      have hlen := nxt_length l (st k)
      generalize st k = o at c0 c1 c2 c3 wn wt hstep hlen
      clear hat
      have hb5 : Below wr.heap.size wr (wr.alloc (.cells o.cells 33)) := (Below.refl _ _).alloc (Nat.le_refl _) _
      have hb6 : Below wr.heap.size wr ((wr.alloc (.cells o.cells 33)).alloc (.cells #[.slice none 0 0] 28)) := hb5.alloc (by simp) _
      have T6 := Lib.hid (T4.out.below hb6)
      have hy := Both.start (T4.out.below hb5).h1
      rw [World.size_alloc] at hy
      have Y6 := Lib.hid hy
      have B6 := Lib.hid (B4.out.trans (hb6.mono B4.out.size))
      have hzw : w.heap.size ≤ wr.heap.size := B4.out.size
      have hml : m1 < wr.heap.size := T4.out.h1.2.lt
      have hml2 : m2 < wr.heap.size := T4.out.h2.2.lt
      have hbl1 : b1 < wr.heap.size := T4.out.h1.lt
      have hbl2 : b2 < wr.heap.size := T4.out.h2.lt
      have hm1w : w.heap.size ≤ m1 := Nat.le_of_eq HM1.out
      have HBox := Lib.hid (step_box wr o (.cells #[.slice none 0 0] 28))
      have HD := Lib.hid (does_any b1 m1 (wr.heap.size + 1) l [] o _ hy wn wt)
      unfold DoesPost at HD
      clear hb5 hb6 hy
      go_wp2_with fail
      go_at_call 9
      refine HD.out.mono ?_
      rintro e wa ⟨r1, rfl, -, k1, k2⟩
      obtain ⟨s6, hs6, -⟩ := Y6.out.rf.open'
      have Ta := Lib.hid (show TT wa b1 m1 (nxt l o) b2 m2 (ofNode l node) from ⟨k1.tms, Tms.g2 T6.out hs6 (by omega) k2, T6.out.ne⟩)
      have Ra := Lib.hid k1.rf
      have Ga := Lib.hid k1.good
      have Ba := Lib.hid (k2.below B6.out (by simp; omega) hm1w (by omega))
      have o0 := (k2.cell (c := wr.heap.size) (by simp; omega) (by omega) (by omega) 0).trans (HBox.out 0 _ rfl)
      have o1 := (k2.cell (c := wr.heap.size) (by simp; omega) (by omega) (by omega) 1).trans (HBox.out 1 _ rfl)
      have o2 := (k2.cell (c := wr.heap.size) (by simp; omega) (by omega) (by omega) 2).trans (HBox.out 2 _ rfl)
      have o3 := (k2.cell (c := wr.heap.size) (by simp; omega) (by omega) (by omega) 3).trans (HBox.out 3 _ rfl)
      clear k1 k2 hs6 T6 Y6 B6 HD HBox
      by_cases hq : o.a.n = node
      · rw [if_pos hq] at hstep
        subst hq
        have HSt := Lib.hid hstep
        have hyb : Both wa b2 m2 (ofNode l o.a.n) (wr.heap.size + 1) (nxt [] o) := ⟨Ta.out.h2, Ra.out, Ga.out, by omega⟩
        have HD := Lib.hid (does_any b2 m2 (wr.heap.size + 1) _ _ o _ hyb wn wt)
        unfold DoesPost at HD
        have hm2w : w.heap.size ≤ m2 := hz1
        clear hstep hyb
        go_wp2_with fail
        go_at_call 9
        refine HD.out.mono ?_
        rintro e wb ⟨r2, rfl, -, k1, k2⟩
        obtain ⟨s7, hs7, -⟩ := Ra.out.open'
        have Tb := Lib.hid (show TT wb b1 m1 (nxt l o) b2 m2 (ofNode (nxt l o) o.a.n) from HSt.out ▸ (⟨Tms.g2 Ta.out.swap hs7 (by omega) k2, k1.tms, Ta.out.ne⟩ : TT wb b1 m1 (nxt l o) b2 m2 (nxt (ofNode l o.a.n) o)))
        have Bb := Lib.hid (k2.below Ba.out Ba.out.size hm2w (by omega))
        clear k1 k2 hs7
        go_wp2
        go_roundw
        case rel => exact ⟨k + 1, nxt l o, by omega, by go_num, by omega, Tb.out, Bb.out⟩
        case measure => simp [intOf]; omega
      · rw [if_neg hq] at hstep
        have hq1 : (o.a.n == node) = false := by simpa using hq
        have Tb := Lib.hid (show TT wa b1 m1 (nxt l o) b2 m2 (ofNode (nxt l o) node) from hstep ▸ Ta.out)
        clear hstep hq
        go_wp2
        go_roundw
        case rel => exact ⟨k + 1, nxt l o, by omega, by go_num, by omega, Tb.out, Ba.out⟩
        case measure => simp [intOf]; omega
    · have hlI : ¬ ((k : Int) < (n : Int)) := by omega
      have HN1 := Lib.hid (fun W (h : Tms W b1 m1 l) => next_any b1 m1 l node W h)
      have HN2 := Lib.hid (fun W (h : Tms W b2 m2 (ofNode l node)) => (next_ofNode l node).2 ▸ (next_ofNode l node).1 ▸ next_any b2 m2 (ofNode l node) node W h)
      have HC1 := Lib.hid (fun W (h : Tms W b1 m1 l) => clear_any b1 m1 l node W h)
      have HC2 := Lib.hid (fun W (h : Tms W b2 m2 (ofNode l node)) => (clear_ofNode l node) ▸ (ofNode_ofNode l node) ▸ clear_any b2 m2 (ofNode l node) node W h)
      generalize nextA l node = na at HN1 HN2
      generalize nextB l node = nb at HN1 HN2
      have hq := fun w => (decide_eq_true (rfl : na = na)) ▸ al_eq31 na na w
      have hm1w : w.heap.size ≤ m1 := Nat.le_of_eq HM1.out
      go_wp2_with fail
      go_at_call 13
      refine (HN1.out _ T4.out.h1).mono ?_
      rintro e wa ⟨rfl, k1⟩
      have hba := k1.trans (((Below.refl wa.heap.size wa).alloc (Nat.le_refl _) (.cells na.cells 31)).mono k1.size)
      have X5 := Lib.hid (AB.fresh 31 wa na)
      have T5 := Lib.hid (T4.out.below hba)
      have B5 := Lib.hid (B4.out.trans (hba.mono B4.out.size))
      clear k1 hba
      go_wp2_with fail
      go_at_call 13
      refine (HN2.out _ T5.out.h2).mono ?_
      rintro e wb ⟨rfl, k1⟩
      have hba := k1.trans (((Below.refl wb.heap.size wb).alloc (Nat.le_refl _) (.cells na.cells 31)).mono k1.size)
      obtain ⟨f0, f1, f2⟩ := (X5.out.below k1).all
      have hfg := (X5.out.below k1).lt
      have T6 := Lib.hid (T5.out.below hba)
      have B6 := Lib.hid (B5.out.trans (hba.mono B5.out.size))
      clear k1 hba
      go_wp2_with fail
      go_at_call 20
      refine (HC1.out _ T6.out.h1).mono ?_
      rintro e wc ⟨rfl, k1, k2⟩
      have T7 := Lib.hid (T6.out.step k1 k2)
      have B7 := Lib.hid (below_grown B6.out k2 B6.out.size (by rintro k ⟨rfl⟩; exact hm1w))
      clear k1 k2 f0 f1 f2 hfg
      go_wp2_with fail
      go_at_call 20
      refine (HC2.out _ T7.out.h2).mono ?_
      rintro e wd ⟨rfl, k1, k2⟩
      have T8 := Lib.hid (T7.out.swap.step k1 k2)
      have B8 := Lib.hid (below_grown B7.out k2 B7.out.size (by rintro k ⟨rfl⟩; exact hz1))
      clear k1 k2
      go_wp2_with fail
      go_at_call 12
      refine (list_any _ _ [] _ T8.out.h1).mono ?_
      rintro e we ⟨v, rfl, k1, k2⟩
      obtain ⟨A9, c9, rfl⟩ := k1.shape
      have B9 := Lib.hid (B8.out.trans (k2.mono B8.out.size))
      clear k1 k2
      go_wp2_with fail
      go_at_call 15
      refine (shown_any _).mono ?_
      rintro e wf ⟨rfl, k1⟩
      have Bx := Lib.hid (B9.out.trans (k1.mono B9.out.size))
      clear k1
      go_wp2
      go_ret
      exact ⟨rfl, Bx.out⟩
end Go.Proofs.Ytcanagecdniiiaa
