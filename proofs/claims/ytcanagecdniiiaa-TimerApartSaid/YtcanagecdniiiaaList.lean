/-
  List (package timer), by a contract: whatever order the map is ranged over in.
-/
import Derived.Test.YtcanagecdniiiaaRange
import Derived.Test.YtcanagecdniiiaaSort
namespace Go.Proofs.Ytcanagecdniiiaa
open Go.RowKit

/-- What was collected: those of l that are not to come any more (of which c tells), each once. -/
def Got (l : List Al) (c : Al → Bool) (left : Lit → Bool) (ss : List Al) : Prop := ss.Nodup ∧ ∀ x, x ∈ ss ↔ (x ∈ l ∧ c x = true ∧ lf left x = false)
theorem nodup_len {ss l : List Al} (h : ss.Nodup) (hs : ∀ x ∈ ss, x ∈ l) : ss.length ≤ l.length := by
  induction ss generalizing l with
  | nil => simp
  | cons x ss ih =>
    obtain ⟨h1, h2⟩ := List.nodup_cons.1 h
    have hx := hs x (by simp)
    have := ih (l := l.erase x) h2 (fun y hy => (List.mem_erase_of_ne (show y ≠ x from fun e => h1 (by rw [← e]; exact hy))).2 (hs y (by simp [hy])))
    rw [List.length_erase_of_mem hx] at this
    have hpos := List.length_pos_of_mem hx
    simp only [List.length_cons]; omega
theorem Got.start {l : List Al} {c : Al → Bool} {left : Lit → Bool} (h : ∀ x ∈ l, lf left x = true) : Got l c left [] :=
  ⟨List.nodup_nil, fun x => ⟨fun hx => by simp at hx, fun ⟨hx, _, hl⟩ => by rw [h x hx] at hl; cases hl⟩⟩
theorem Got.nodup {l : List Al} {c : Al → Bool} {left : Lit → Bool} {ss : List Al} (h : Got l c left ss) : ss.Nodup := h.1
theorem Got.le {l : List Al} {c : Al → Bool} {left : Lit → Bool} {ss : List Al} (h : Got l c left ss) : ss.length ≤ l.length := nodup_len h.1 fun x hx => ((h.2 x).1 hx).1
theorem Got.step {l : List Al} {c : Al → Bool} {left left' : Lit → Bool} {ss : List Al} {y : Al} (h : Got l c left ss) (hy : y ∈ l) (hc : c y = true) (h1 : lf left y = true) (h2 : lf left' y = false) (h3 : ∀ x ∈ l, x ≠ y → lf left' x = lf left x) : Got l c left' (ss ++ [y]) := by
  have hn : y ∉ ss := fun hm => by have := ((h.2 y).1 hm).2.2; rw [h1] at this; cases this
  refine ⟨List.nodup_append.2 ⟨h.1, by simp, fun a ha b hb e => by
    rw [List.mem_singleton] at hb
    subst hb; subst e; exact hn ha⟩, fun x => ?_⟩
  rw [List.mem_append, List.mem_singleton, h.2 x]
  constructor
  · rintro (⟨a1, a2, a3⟩ | rfl)
    · have hne : x ≠ y := fun e => by subst e; rw [h1] at a3; cases a3
      exact ⟨a1, a2, by rw [h3 x a1 hne]; exact a3⟩
    · exact ⟨hy, hc, h2⟩
  · rintro ⟨a1, a2, a3⟩
    by_cases e : x = y
    · exact .inr e
    · exact .inl ⟨a1, a2, by rw [← h3 x a1 e]; exact a3⟩
theorem Got.pass {l : List Al} {c : Al → Bool} {left left' : Lit → Bool} {ss : List Al} {y : Al} (h : Got l c left ss) (hc : c y = false) (h3 : ∀ x ∈ l, x ≠ y → lf left' x = lf left x) : Got l c left' ss := by
  refine ⟨h.1, fun x => ?_⟩
  rw [h.2 x]
  by_cases e : x = y
  · subst e; rw [hc]; simp
  · constructor
    · rintro ⟨a1, a2, a3⟩; exact ⟨a1, a2, by rw [h3 x a1 e]; exact a3⟩
    · rintro ⟨a1, a2, a3⟩; exact ⟨a1, a2, by rw [← h3 x a1 e]; exact a3⟩
theorem Got.done {l : List Al} {c : Al → Bool} {left : Lit → Bool} {ss : List Al} (h : Got l c left ss) (hl : ∀ z, left z = false) : ∀ x, x ∈ ss ↔ x ∈ l.filter c := fun x => by
  rw [h.2 x, List.mem_filter]; simp [lf, hl]

set_option maxRecDepth 100000 in
set_option maxHeartbeats 2000000 in
theorem list_any (B mb : Nat) (l : List Al) (w : World) (h : Tms w B mb l) :
    Calls Try.prog 12 #[.pointer (some ⟨B, 0, none⟩)] w fun e w' => ∃ v, e = .returned v ∧ Owns 31 w' w.heap.size v l ∧ Below w.heap.size w w' := by
  obtain ⟨i0, hi0, hz0, hz1, hz2⟩ := info_parts infoP
  have hG := Lib.hid h.2.good
  have hle := hG.out.le
  have hbl := h.lt
  have hml := h.2.lt
  have hc0 := h.1
  have HT := Lib.hid h.2
  clear h
  go_enter Try.func12, Try.ntmps12
  go_wp2_with (at_range; refine wpList_range_als _ rfl _ rfl mb l rfl HT.out ?_; intro w0 left0 cnt0 hrg0 hl0 hg0 hs0)
  go_frame
  go_loopw [3] (fun v wr => ∃ (left : Lit → Bool) (cnt : Nat) (ss : List Al), Rg wr mb w.heap.size l.length l left cnt ∧ Owns 31 wr w.heap.size v ss ∧ Got l (fun _ => true) left ss ∧ Below w.heap.size w wr)
    (fun _ wr => wr.rangeLeft mb w.heap.size)
  case atStart => exact ⟨left0, cnt0, [], hrg0, Owns.nil _ _ _, Got.start hl0, below_grown (Below.refl _ _) hg0 (Nat.le_refl _) (by simp)⟩
  case round =>
    obtain ⟨left, cnt, ss, hrg, hown, hgot, hnx⟩ := hrel
    have HR := Lib.hid hrg
    have HRm := Lib.hid hrg.left_eq
    have HO := Lib.hid hown
    have HN := Lib.hid hnx
    have HGt := Lib.hid hgot
    clear hrg hown hnx hgot hg0 hs0 hl0 hrg0
    go_wp2_with (first
      | (at_next; refine wpList_next_als _ rfl _ rfl mb w.heap.size l.length l left cnt rfl HR.out ?_ ?_)
      | go_in)
    · intro hdone
      have hd := Lib.hid hdone
      clear hdone
      go_wp2_with fail
      go_at_call 24
      with_reducible refine (sort_any w.heap.size _ ss l wr HO.out (fun x => by rw [HGt.out.done hd.out]; simp) HGt.out.nodup hG.out.sorted (by have := HGt.out.le; omega)).mono ?_
      rintro e w2 ⟨rfl, k1, k2⟩
      have K1 := Lib.hid k1
      have K2 := Lib.hid (below_grown HN.out k2 HN.out.size (fun k hk => (HO.out.lt hk).1))
      clear k1 k2
      go_wp2
      go_ret
      exact ⟨_, rfl, K1.out, K2.out⟩
    · intro y w1 left1 cnt1 hy h1 h2 h3 h4 _ hrg1 hlt hg1 hs1 hen
      have HR1 := Lib.hid hrg1
      have HO1 := Lib.hid (HO.out.grown hg1 (fun g hg e => (HR.out.ne_row HO.out).1 (by rw [hg, e])))
      have HN1 := Lib.hid (below_grown HN.out hg1 HN.out.size (by rintro k ⟨rfl⟩; exact Nat.le_refl _))
      have HG1 := Lib.hid (HGt.out.step hy rfl h1 h2 h3)
      have hz1' : w.heap.size ≤ w1.heap.size := HN1.out.size
      have hsl := HGt.out.le
      clear hrg1 hg1 hs1 h1 h2 h3 h4 HR HO HN HGt hy
      have HW := Lib.hid (news2 w1 (.cells y.cells 31) y 31)
      have hba : Below w1.heap.size w1 ((w1.alloc (.cells y.cells 31)).alloc (.cells y.cells 31)) := ((Below.refl _ _).alloc (Nat.le_refl _) _).alloc (by simp) _
      have HB := Lib.hid hba
      clear hba
      go_wp2_with (at_builtin; refine wpList_append_lies _ rfl (.tmp 15) (.tmp 17) 36 rfl w.heap.size 31 i0 _ 3 24 Try.underlying36 hi0 hz0 hz1 hz2 rfl (by decide) _ ss.length (flat ss) rfl (HO1.out.below HB.out) ⟨w1.heap.size + 1, 0, none⟩ 1 1 (flat [y]) rfl (by simp [flat]) HW.out (flat_oneCell _) (by decide) (by unfold maxLen; omega) (by omega) (by simp; omega) (w1.heap.size + 2) (by simp) ?_; intro g cap w2 hown2 hgrow2 _ _; (have K1 := Lib.hid ((HR1.out.below HB.out).kept hgrow2 ((HR1.out.below HB.out).ne_row (HO1.out.below HB.out)).2 ((HR1.out.below HB.out).ne_row (HO1.out.below HB.out)).1)); (have K2 := Lib.hid (below_grown (HN1.out.trans (HB.out.mono hz1')) hgrow2 (by simp; omega) (fun k hk => (HO1.out.lt hk).1))); have K3 := Lib.hid (Owns.snoc hown2); clear hown2 hgrow2)
      go_roundw
      case rel => exact ⟨left1, cnt1, ss ++ [y], K1.out, by simpa using K3.out, HG1.out, K2.out⟩
      case measure => rw [K1.out.left_eq, HRm.out]; exact hlt
end Go.Proofs.Ytcanagecdniiiaa
