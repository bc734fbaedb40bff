/-
  Due and Clear (package timer), by contracts: whatever order the map is ranged over in, while it loses what is due.
-/
import Derived.Test.YtcanagecdniiiaaList
import Derived.Test.YtcanagecdniiiaaSet
namespace Go.Proofs.Ytcanagecdniiiaa
open Go.RowKit

/-- What the map has while Due ranges over it. -/
def keepF (c : Al → Bool) (left : Lit → Bool) (l : List Al) : List Al := l.filter fun x => !c x || lf left x
theorem keepF_start {c : Al → Bool} {left : Lit → Bool} {l : List Al} (h : ∀ x ∈ l, lf left x = true) : l = keepF c left l := by
  unfold keepF
  rw [List.filter_eq_self.2 (fun x hx => by rw [h x hx]; simp)]
theorem keepF_pass {c : Al → Bool} {left left' : Lit → Bool} {l : List Al} {y : Al} (hc : c y = false) (h : ∀ x ∈ l, x ≠ y → lf left' x = lf left x) : keepF c left' l = keepF c left l := by
  unfold keepF
  apply List.filter_congr
  intro x hx
  by_cases e : x = y
  · subst e; rw [hc]; rfl
  · rw [h x hx e]
theorem keepF_drop {c : Al → Bool} {left left' : Lit → Bool} {l : List Al} {y : Al} (hG : Good l) (hy : y ∈ l) (hc : c y = true) (hl : lf left' y = false) (h : ∀ x ∈ l, x ≠ y → lf left' x = lf left x) : wo (keepF c left l) y.n y.t = keepF c left' l := by
  unfold wo keepF
  rw [List.filter_filter]
  apply List.filter_congr
  intro x hx
  by_cases e : x = y
  · subst e
    rw [hc, hl, show decide (x.is x.n x.t) = true from decide_eq_true ⟨rfl, rfl⟩]; simp
  · rw [h x hx e, show decide (x.is y.n y.t) = false from decide_eq_false (fun hi => e (key_unique hG hx hy hi.1 hi.2))]; simp
theorem keepF_end {c : Al → Bool} {left : Lit → Bool} {l : List Al} (h : ∀ z, left z = false) : keepF c left l = l.filter fun x => !c x := by
  unfold keepF
  apply List.filter_congr
  intro x _
  rw [show lf left x = false from h _]; simp
theorem mem_keepF {c : Al → Bool} {left : Lit → Bool} {l : List Al} {y : Al} (h : y ∈ keepF c left l) : y ∈ l := (List.mem_filter.1 h).1

theorem key_cells (w : World) (n t : Int) (o o' : Obj) : (((w.alloc (.cells #[.int .i64 n, .int .i64 t] 59)).alloc o).alloc o').cell? ⟨w.heap.size, 0, none⟩ = some (.int .i64 n) ∧ (((w.alloc (.cells #[.int .i64 n, .int .i64 t] 59)).alloc o).alloc o').cell? ⟨w.heap.size, 1, none⟩ = some (.int .i64 t) := by
  have hb : Below (w.heap.size + 1) (w.alloc (.cells #[.int .i64 n, .int .i64 t] 59)) (((w.alloc (.cells #[.int .i64 n, .int .i64 t] 59)).alloc o).alloc o') := ((Below.refl _ _).alloc (by simp) _).alloc (by simp) _
  constructor
  · rw [hb.cell (p := ⟨w.heap.size, 0, none⟩) (Nat.lt_succ_self _)]; simp
  · rw [hb.cell (p := ⟨w.heap.size, 1, none⟩) (Nat.lt_succ_self _)]; simp
@[reducible] def dueC (n now : Int) : Al → Bool := fun x => decide (x.n = n ∧ x.a ≤ now)

set_option maxRecDepth 100000 in
set_option maxHeartbeats 4000000 in
theorem due_any (B mb : Nat) (l : List Al) (n now : Int) (w : World) (h : Tms w B mb l) :
    Calls Try.prog 18 #[.pointer (some ⟨B, 0, none⟩), .int .i64 n, .int .i64 now] w fun e w' => ∃ v, e = .returned v ∧ Owns 31 w' w.heap.size v (dueL l n now) ∧ Tms w' B mb (leftL l n now) ∧ w.grownBy w' (some mb) := by
  obtain ⟨i0, hi0, hz0, hz1, hz2⟩ := info_parts infoP
  have hG := Lib.hid h.2.good
  have hle := hG.out.le
  have hbl := h.lt
  have hml := h.2.lt
  have hne := h.ne
  have hc0 := h.1
  have HC := Lib.hid hc0
  have HT := Lib.hid h.2
  clear h
  go_enter Try.func18, Try.ntmps18
  go_wp2_with (at_range; refine wpList_range_als _ rfl _ rfl mb l rfl HT.out ?_; intro w0 left0 cnt0 hrg0 hl0 hg0 hs0)
  go_frame
  clear hc0
  go_loopw [7] (fun v wr => ∃ (left : Lit → Bool) (cnt : Nat) (ss : List Al), Rg wr mb w.heap.size l.length (keepF (dueC n now) left l) left cnt ∧ Owns 31 wr w.heap.size v ss ∧ Got l (dueC n now) left ss ∧ w.grownBy wr (some mb))
    (fun _ wr => wr.rangeLeft mb w.heap.size)
  case atStart => exact ⟨left0, cnt0, [], by rw [← keepF_start hl0]; exact hrg0, Owns.nil _ _ _, Got.start hl0, hg0.but _⟩
  case round =>
    obtain ⟨left, cnt, ss, hrg, hown, hgot, hnx⟩ := hrel
    have HR := Lib.hid hrg
    have HRm := Lib.hid hrg.left_eq
    have HO := Lib.hid hown
    have HN := Lib.hid hnx
    have HGt := Lib.hid hgot
    clear hrg hown hnx hgot hg0 hs0 hl0 hrg0
    go_wp2_with (first
      | (at_next; refine wpList_next_als _ rfl _ rfl mb w.heap.size l.length _ left cnt rfl HR.out ?_ ?_)
      | go_in)
    · intro hdone
      have hd := Lib.hid hdone
      have hdl : ∀ x, x ∈ ss ↔ x ∈ dueL l n now := fun x => HGt.out.done hd.out x
      clear hdone
      go_wp2_with fail
      go_at_call 24
      with_reducible refine (sort_any w.heap.size _ ss (dueL l n now) wr HO.out hdl HGt.out.nodup (hG.out.due n now).sorted (by have := HGt.out.le; omega)).mono ?_
      rintro e w2 ⟨rfl, k1, k2⟩
      have K1 := Lib.hid k1
      have K2 := Lib.hid (HN.out.andThen k2 (fun j hj => .inl (HO.out.lt hj).1))
      have K3 := Lib.hid (show Tm w2 mb (leftL l n now) from by
        have := HR.out.tm.kept k2 (HR.out.ne_row HO.out).2
        rw [keepF_end hd.out] at this
        exact this)
      clear k1 k2
      go_wp2
      go_ret
      exact ⟨_, rfl, K1.out, ⟨K2.out.cell HC.out (fun e => hne (Option.some.inj e).symm), K3.out⟩, K2.out⟩
    · intro y w1 left1 cnt1 hy h1 h2 h3 h4 h5 hrg1 hlt hg1 hs1 hen
      have hyl := mem_keepF hy
      have h6 : ∀ x ∈ l, x ≠ y → lf left1 x = lf left x := fun x hx hne => struck_other hG.out hx hyl h5 hne
      have HR1 := Lib.hid hrg1
      have HO1 := Lib.hid (HO.out.grown hg1 (fun g hg e => (HR.out.ne_row HO.out).1 (by rw [hg, e])))
      have HN1 := Lib.hid (HN.out.andThen hg1 (by rintro k ⟨rfl⟩; exact .inl (Nat.le_refl _)))
      have hz1' : w.heap.size ≤ w1.heap.size := HN1.out.size
      have hsl := HGt.out.le
      by_cases hc : y.n = n ∧ y.a ≤ now
      · have hcc : dueC n now y = true := decide_eq_true hc
        have HG1 := Lib.hid (HGt.out.step hyl hcc h1 h2 h6)
        have HD := Lib.hid (fun W (H : Rg W mb w.heap.size l.length (keepF (dueC n now) left l) left1 cnt1) => (keepF_drop hG.out hyl hcc h2 h6) ▸ H.drop (hG.out.all y hyl) h2 h5 0)
        obtain ⟨hc1, hc2⟩ := hc
        subst hc1
        clear hrg1 hg1 hs1 h1 h2 h3 h4 h5 h6 HR HO HN HGt hy hyl hcc
        have HW := Lib.hid (news3 w1 (.cells #[.int .i64 y.n, .int .i64 y.t] 59) (.cells y.cells 31) y 31)
        have hba : Below w1.heap.size w1 (((w1.alloc (.cells #[.int .i64 y.n, .int .i64 y.t] 59)).alloc (.cells y.cells 31)).alloc (.cells y.cells 31)) := (((Below.refl _ _).alloc (Nat.le_refl _) _).alloc (by simp) _).alloc (by simp; omega) _
        obtain ⟨q0, q1⟩ := key_cells w1 y.n y.t (.cells y.cells 31) (.cells y.cells 31)
        have Q0 := Lib.hid q0
        have Q1 := Lib.hid q1
        have HB := Lib.hid hba
        clear hba q0 q1
        go_wp2_with (at_builtin; refine wpList_append_lies _ rfl (.tmp 30) (.tmp 32) 36 rfl w.heap.size 31 i0 _ 3 24 Try.underlying36 hi0 hz0 hz1 hz2 rfl (by decide) _ ss.length (flat ss) rfl (HO1.out.below HB.out) ⟨w1.heap.size + 1 + 1, 0, none⟩ 1 1 (flat [y]) rfl (by simp [flat]) HW.out (flat_oneCell _) (by decide) (by unfold maxLen; omega) (by omega) (by simp; omega) (w1.heap.size + 3) (by simp) ?_; intro g cap w2 hown2 hgrow2 _ _; (have K1 := Lib.hid ((HR1.out.below HB.out).kept hgrow2 ((HR1.out.below HB.out).ne_row (HO1.out.below HB.out)).2 ((HR1.out.below HB.out).ne_row (HO1.out.below HB.out)).1)); (have K2 := Lib.hid ((HN1.out.andThen (grown_of_below HB.out none) (by simp)).andThen hgrow2 (fun k hk => .inl (HO1.out.lt hk).1))); have K3 := Lib.hid (Owns.snoc hown2); (have e0 := hgrow2.cell Q0.out (fun e => absurd (HO1.out.lt e.symm).2 (Nat.lt_irrefl _))); (have e1 := hgrow2.cell Q1.out (fun e => absurd (HO1.out.lt e.symm).2 (Nat.lt_irrefl _))); (have e2 := K2.out.cell HC.out (fun e => hne (Option.some.inj e).symm)); clear hown2 hgrow2)
        have hbd : Below w2.heap.size w2 w2.drew := (Below.refl _ _).drew
        obtain ⟨w3, cnt3, hrun, k1, k2, k3⟩ := HD.out _ (K1.out.below hbd)
        have K4 := Lib.hid k1
        have K5 := Lib.hid (grown_trans (K2.out.andThen (grown_of_below hbd none) (by simp)) k3.grown)
        have K6 := Lib.hid ((K3.out.below hbd).grown k3.grown (fun g' hg e => by
          have h9 := ((K1.out.below hbd).ne_row (K3.out.below hbd)).2
          rw [hg, e] at h9; exact h9 rfl))
        have K7 := Lib.hid k2
        clear k1 k2 k3 hbd K1 K2 K3 HD HB HW Q0 Q1 HN1 HO1 HR1
        go_region
        go_wp2
        go_roundw
        case rel => exact ⟨left1, cnt3, ss ++ [y], K4.out, by simpa using K6.out, HG1.out, K5.out⟩
        case measure => rw [K4.out.left_eq, HRm.out]; have := K7.out; omega
      · have hcc : dueC n now y = false := decide_eq_false hc
        have HG1 := Lib.hid (HGt.out.pass hcc h6)
        have HR2 := Lib.hid ((keepF_pass hcc h6) ▸ hrg1)
        clear hrg1 hg1 hs1 h1 h2 h3 h4 h5 h6 HR HO HN HGt hy hyl hcc HR1
        have hba : Below w1.heap.size w1 ((w1.alloc (.cells #[.int .i64 y.n, .int .i64 y.t] 59)).alloc (.cells y.cells 31)) := ((Below.refl _ _).alloc (Nat.le_refl _) _).alloc (by simp) _
        have K4 := Lib.hid (HR2.out.below hba)
        have K5 := Lib.hid (HN1.out.andThen (grown_of_below hba none) (by simp))
        have K6 := Lib.hid (HO1.out.below hba)
        clear hba HN1 HO1 HR2
        by_cases hq : y.n = n
        · have hq1 : ¬ (y.a ≤ now) := fun hq1 => hc ⟨hq, hq1⟩
          subst hq
          clear hc
          go_wp2
          go_roundw
          case rel => exact ⟨left1, cnt1, ss, K4.out, K6.out, HG1.out, K5.out⟩
          case measure => rw [K4.out.left_eq, HRm.out]; exact hlt
        · have hq1 : (y.n == n) = false := by simpa using hq
          clear hc
          go_wp2
          go_roundw
          case rel => exact ⟨left1, cnt1, ss, K4.out, K6.out, HG1.out, K5.out⟩
          case measure => rw [K4.out.left_eq, HRm.out]; exact hlt

theorem clear_any (B mb : Nat) (l : List Al) (n : Int) (w : World) (h : Tms w B mb l) :
    Calls Try.prog 20 #[.pointer (some ⟨B, 0, none⟩), .int .i64 n] w fun e w' => e = .returned (.int .i64 (ofNode l n).length) ∧ Tms w' B mb (clearL l n) ∧ w.grownBy w' (some mb) := by
  obtain ⟨c1, c2⟩ := dueL_clear h.2.good n
  have HD := Lib.hid (due_any B mb l n 1099511627776 w h)
  rw [c1, c2] at HD
  clear c1 c2 h
  obtain ⟨len, hlen⟩ : ∃ len, (ofNode l n).length = len := ⟨_, rfl⟩
  rw [hlen]
  go_enter Try.func20, Try.ntmps20
  go_wp2_with fail
  go_at_call 18
  refine HD.out.mono ?_
  rintro e w1 ⟨v, rfl, k1, k2, k3⟩
  have K2 := Lib.hid k2
  have K3 := Lib.hid k3
  rcases k1.form with ⟨rfl, e0⟩ | ⟨g, cap, rfl, -⟩
  · obtain rfl : len = 0 := by rw [← hlen, e0]; rfl
    clear k1 k2 k3 hlen
    go_wp2
    go_ret
    exact ⟨rfl, K2.out, K3.out⟩
  · rw [hlen]
    clear k1 k2 k3 hlen
    go_wp2
    go_ret
    exact ⟨rfl, K2.out, K3.out⟩
end Go.Proofs.Ytcanagecdniiiaa
