/-
  The queue's places and the bag's For (package bag), by contracts.
-/
import Derived.Test.YthcoghgpdcnhlaaKeep
namespace Go.Proofs.Ythcoghgpdcnhlaa
open Go.RowKit

/-- What a slice of messages looks like to one who reads it. -/
theorem Owns.look {w : World} {base : Nat} {s : Value} {l : List M} (h : Owns w base s l) : ∃ A cap, s = .slice A l.length cap ∧ ∀ j m, l[j]? = some m → ∃ g, A = some ⟨g, 0, none⟩ ∧ g < w.heap.size ∧ At w g (j * 8) m := by
  rcases h.form with ⟨rfl, rfl⟩ | ⟨g, cap, rfl, -, hgl, -, -, hat⟩
  · exact ⟨none, 0, rfl, fun j m h => by simp at h⟩
  · exact ⟨_, _, rfl, fun j m h => ⟨g, rfl, hgl, hat j m h⟩⟩
theorem At.kept {w w' : World} {g o : Nat} {m : M} (h : At w g o m) (hx : ∀ o, w'.cell? ⟨g, o, none⟩ = w.cell? ⟨g, o, none⟩) : At w' g o m :=
  ⟨(hx _).trans h.c0, (hx _).trans h.c1, (hx _).trans h.c2, (hx _).trans h.c3, (hx _).trans h.c4, (hx _).trans h.c5, (hx _).trans h.c6, (hx _).trans h.c7⟩

/-- The slice v has the numbers l, in a row of its own. -/
def OwnsI (w : World) (base : Nat) (v : Value) (l : List Int) : Prop := w.ownsRow base 3 1 v l.length (l.map (Value.int .i64))
theorem OwnsI.nil (w : World) (base : Nat) : OwnsI w base (.slice none 0 0) [] := World.ownsRow_nil _ _ _ _
theorem OwnsI.lt {w : World} {base : Nat} {v : Value} {l : List Int} (h : OwnsI w base v l) {g : Nat} (hg : v.ownBlock = some g) : base ≤ g ∧ g < w.heap.size := World.ownsRow.lt h g hg
theorem OwnsI.kept {w w' : World} {base : Nat} {v : Value} {l : List Int} (h : OwnsI w base v l) (hb : ∀ g, v.ownBlock = some g → w'.heap[g]? = w.heap[g]?) : OwnsI w' base v l := by
  refine ⟨h.1, ?_⟩
  rcases h.2 with hn | ⟨g, cap, cur, rfl, hbs, hgg, rest⟩
  · exact .inl hn
  · exact .inr ⟨g, cap, cur, rfl, hbs, by rw [hb g rfl]; exact hgg, rest⟩
theorem OwnsI.below {w w' : World} (hb : Below w.heap.size w w') {base : Nat} {v : Value} {l : List Int} (h : OwnsI w base v l) : OwnsI w' base v l :=
  h.kept fun g hg => hb.block g (h.lt hg).2
theorem OwnsI.look {w : World} {base : Nat} {s : Value} {l : List Int} (h : OwnsI w base s l) : ∃ A cap, s = .slice A l.length cap ∧ ∀ j x, l[j]? = some x → ∃ g, A = some ⟨g, 0, none⟩ ∧ g < w.heap.size ∧ w.cell? ⟨g, j, none⟩ = some (.int .i64 x) := by
  rcases h.2 with ⟨hv, h0⟩ | ⟨g, cap, cur, hv, hb, hg, hn, hm, hs, ht⟩
  · have : l = [] := List.length_eq_zero_iff.1 h0
    subst this
    exact ⟨none, 0, hv, fun j x h => by simp at h⟩
  · refine ⟨_, cap, hv, fun j x hx => ⟨g, rfl, (Array.getElem?_eq_some_iff.1 hg).1, ?_⟩⟩
    have hjl : j < l.length := (List.getElem?_eq_some_iff.1 hx).1
    have h1 : (l.map (Value.int .i64))[j]? = some (.int .i64 x) := by rw [List.getElem?_map, hx]; rfl
    rw [cell_of_row w g j cur _ (0, 0) hg, ← h1, ← ht, List.getElem?_take, if_pos (by omega)]
    simp
theorem infoInt : (Try.prog.info? 3).map (fun i => (i.zero, i.size, i.bytes)) = some (some (.int .i64 0), 1, 8) := by kernel_rfl
theorem ints_one (l : List Int) : ∀ u ∈ l.map (Value.int .i64), u.oneCell' = true := fun u hu => by
  obtain ⟨x, _, rfl⟩ := List.mem_map.1 hu; rfl

/-- The places, of the first k, of messages to a node. -/
def plc (q : Int) (l : List M) : Nat → List Int
  | 0 => []
  | k + 1 => plc q l k ++ (match l[k]? with
    | some m => if (m.dst == q) = true then [(k : Int)] else []
    | none => [])
theorem plc_yes {q : Int} {l : List M} {k : Nat} {m : M} (h : l[k]? = some m) (hp : (m.dst == q) = true) : plc q l (k + 1) = plc q l k ++ [(k : Int)] := by simp [plc, h, hp]
theorem plc_no {q : Int} {l : List M} {k : Nat} {m : M} (h : l[k]? = some m) (hp : (m.dst == q) = false) : plc q l (k + 1) = plc q l k := by simp [plc, h, hp]
theorem plc_le (q : Int) (l : List M) (k : Nat) : (plc q l k).length ≤ k := by
  induction k with
  | zero => simp [plc]
  | succ k ih =>
    cases h : l[k]? with
    | none => simp [plc, h]; omega
    | some m => by_cases hp : (m.dst == q) = true <;> simp [plc, h, hp] <;> omega

theorem forFn (i : Int) (m : M) (c : Nat) (w : World) (hc : w.cell? ⟨c, 0, none⟩ = some (.int .i64 i)) :
    Calls Try.prog 35 #[m.val, .pointer (some ⟨c, 0, none⟩)] w fun e w' => e = .returned (.bool (m.dst == i)) ∧ Below w.heap.size w w' := by
  have hcl := cell_lt3 hc
  go_enter Try.func35, Try.ntmps35
  go_wp2
  go_ret
  exact ⟨rfl, by go_grown⟩

set_option maxRecDepth 100000 in
set_option maxHeartbeats 2000000 in
theorem places_any (b c : Nat) (row : Option Nat) (l : List M) (i : Int) (w : World) (hB : Bg w b row l) (hl : l.length ≤ 1000) (hc : w.cell? ⟨c, 0, none⟩ = some (.int .i64 i)) :
    Calls Try.prog 34 #[.pointer (some ⟨b, 0, none⟩), .func (.func 35) #[] #[.pointer (some ⟨c, 0, none⟩)]] w fun e w' => ∃ v, e = .returned v ∧ OwnsI w' w.heap.size v (plc i l l.length) ∧ Below w.heap.size w w' := by
  have hbl := hB.lt
  have hcl := cell_lt3 hc
  obtain ⟨s, hs, -, hown, -⟩ := hB
  obtain ⟨i0, hi0, hz0, hz1', hz2⟩ := info_parts infoInt
  have HC := Lib.hid hc
  obtain ⟨A, cap, rfl, hat⟩ := hown.look
  have HA := Lib.hid hat
  clear hown hc hat
  go_enter Try.func34, Try.ntmps34
  go_wp2
  go_loopw [5, 13] (fun v iv wr => ∃ k : Nat, k ≤ l.length ∧ iv = .int .i64 k ∧ OwnsI wr w.heap.size v (plc i l k) ∧ Below w.heap.size w wr) (fun _ iv _ => l.length - (intOf iv).toNat)
  case atStart => exact ⟨0, Nat.zero_le _, rfl, OwnsI.nil _ _, Below.refl _ _⟩
  case round =>
    obtain ⟨k, hk, rfl, ho, hb⟩ := hrel
    have hz := hb.size
    by_cases hlt : k < l.length
    · obtain ⟨m, hm'⟩ : ∃ m, l[k]? = some m := ⟨_, List.getElem?_eq_getElem hlt⟩
      obtain ⟨g, rfl, hgl, hat⟩ := HA.out k m hm'
      obtain ⟨c0, c1, c2, c3, c4, c5, c6, c7⟩ := hat.kept (w' := wr) (fun o => hb.cell (p := ⟨g, o, none⟩) hgl)
      have hgr : g < wr.heap.size := by omega
      have hlI : (k : Int) < (l.length : Int) := by omega
      have hkI : (0 : Int) ≤ (k : Int) := by omega
      have HO := Lib.hid ho
      have HB := Lib.hid hb
      have HM := Lib.hid hm'
      clear ho hb hm' hat
      by_cases hp : (m.dst == i) = true
      · go_wp2_with fail
        go_at_call 35
        have hbA : Below wr.heap.size wr (wr.alloc (.cells m.cells 31)) := (Below.refl _ _).alloc (Nat.le_refl _) _
        refine (forFn i m c (wr.alloc (.cells m.cells 31)) (((HB.out.trans (hbA.mono hz)).cell (p := ⟨c, 0, none⟩) hcl).trans HC.out)).mono ?_
        rintro e w1 ⟨rfl, hb1⟩
        rw [hp]
        have HP := Lib.hid hp
        have hbW : Below wr.heap.size wr w1 := hbA.trans (hb1.mono (by simp))
        have HO1 := Lib.hid (HO.out.below hbW)
        have HB1 := Lib.hid (HB.out.trans (hbW.mono hz))
        have hz1 : wr.heap.size ≤ w1.heap.size := hbW.size
        clear hb1 hbW hbA HB HO hp c0 c1 c2 c3 c4 c5 c6 c7
        have HN := Lib.hid (show ∀ j u, ([(k : Int)].map (Value.int .i64))[j]? = some u → (w1.alloc (.cells #[.int .i64 k] 3)).cell? ((⟨w1.heap.size, 0, none⟩ : Addr).add j) = some u from fun j u hu => World.news_of_block (cs := #[.int .i64 k]) (t := 3) (fr := (0, 0)) (heap_alloc_new w1 _) j u hu)
        have hkl := plc_le i l k
        go_wp2_with (at_builtin; refine wpList_append_own _ rfl (.tmp 21) (.tmp 23) 41 rfl w.heap.size 3 i0 _ 1 8 Try.underlying41 hi0 hz0 hz1' hz2 rfl (by decide) u5 _ _ rfl (World.ownsRow.alloc HO1.out _) ⟨w1.heap.size, 0, none⟩ 1 1 ([(k : Int)].map (Value.int .i64)) rfl (by simp) HN.out (ints_one _) (by unfold maxLen; omega) (by omega) (by simp; omega) ?_; intro v w2 hown2 hgrow _)
        go_roundw
        case rel =>
          refine ⟨k + 1, by omega, by go_num, ?_, ?_⟩
          · rw [plc_yes HM.out HP.out]; unfold OwnsI; rw [List.map_append]; simpa using hown2
          · exact (HB1.out.alloc (by omega) _).grown hgrow (by simp; omega) (fun g hg => (HO1.out.lt hg).1)
        case measure => simp [intOf]; omega
      · have hp : (m.dst == i) = false := by simpa using hp
        go_wp2_with fail
        go_at_call 35
        have hbA : Below wr.heap.size wr (wr.alloc (.cells m.cells 31)) := (Below.refl _ _).alloc (Nat.le_refl _) _
        refine (forFn i m c (wr.alloc (.cells m.cells 31)) (((HB.out.trans (hbA.mono hz)).cell (p := ⟨c, 0, none⟩) hcl).trans HC.out)).mono ?_
        rintro e w1 ⟨rfl, hb1⟩
        rw [hp]
        have HP := Lib.hid hp
        have hbW : Below wr.heap.size wr w1 := hbA.trans (hb1.mono (by simp))
        have HO1 := Lib.hid (HO.out.below hbW)
        have HB1 := Lib.hid (HB.out.trans (hbW.mono hz))
        clear hb1 hbW hbA HB HO hp c0 c1 c2 c3 c4 c5 c6 c7
        go_wp2
        go_roundw
        case rel => exact ⟨k + 1, by omega, by go_num, by rw [plc_no HM.out HP.out]; exact HO1.out, HB1.out⟩
        case measure => simp [intOf]; omega
    · have hlI : ¬ ((k : Int) < (l.length : Int)) := by omega
      have hkl : k = l.length := by omega
      subst hkl
      have HO := Lib.hid ho
      have HB := Lib.hid hb
      clear ho hb
      go_wp2
      go_ret
      exact ⟨_, rfl, HO.out, HB.out⟩

set_option maxRecDepth 100000 in
theorem for_any (b : Nat) (row : Option Nat) (l : List M) (i : Int) (w : World) (hB : Bg w b row l) (hl : l.length ≤ 1000) :
    Calls Try.prog 16 #[.pointer (some ⟨b, 0, none⟩), .int .i64 i] w fun e w' => ∃ v, e = .returned v ∧ OwnsI w' w.heap.size v (plc i l l.length) ∧ Below w.heap.size w w' := by
  have hbl := hB.lt
  have hbA : Below w.heap.size w (w.alloc (.cells #[.int .i64 i] 3)) := (Below.refl _ _).alloc (Nat.le_refl _) _
  have HB := Lib.hid (hB.below hbA)
  have HA := Lib.hid hbA
  have HC := Lib.hid (show (w.alloc (.cells #[.int .i64 i] 3)).cell? ⟨w.heap.size, 0, none⟩ = some (.int .i64 i) by simp)
  obtain ⟨s, hs, -⟩ := hB
  clear hbA
  go_enter Try.func16, Try.ntmps16
  go_wp2_with fail
  go_at_call 34
  refine (places_any _ _ _ l i _ HB.out hl HC.out).mono ?_
  rintro e w' ⟨v, rfl, h1, h2⟩
  have H1 := Lib.hid h1
  have H2 := Lib.hid h2
  clear h1 h2
  go_wp2
  go_ret
  refine ⟨_, rfl, ?_, HA.out.trans (H2.out.mono (by simp))⟩
  obtain ⟨o1, o2⟩ := H1.out
  refine ⟨o1, ?_⟩
  rcases o2 with o2 | ⟨g, cap, cur, hv, hg, rest⟩
  · exact .inl o2
  · exact .inr ⟨g, cap, cur, hv, by simp at hg; omega, rest⟩
end Go.Proofs.Ythcoghgpdcnhlaa
