/-
  The queue's keep (package bag) with the two closures that are handed to it, by contracts.
-/
import Derived.Test.YthcoghgpdcnhlaaList
namespace Go.Proofs.Ythcoghgpdcnhlaa
open Go.RowKit

theorem takeFn (p i : Int) (m : M) (c : Nat) (w : World) (hc : w.cell? ⟨c, 0, none⟩ = some (.int .i64 i)) :
    Calls Try.prog 28 #[.int .i64 p, m.val, .pointer (some ⟨c, 0, none⟩)] w fun e w' => e = .returned (.bool (p != i)) ∧ Below w.heap.size w w' := by
  have hcl := cell_lt3 hc
  go_enter Try.func28, Try.ntmps28
  go_wp2
  go_ret
  exact ⟨rfl, by go_grown⟩
theorem cutFn (p i : Int) (m : M) (c : Nat) (w : World) (hc : w.cell? ⟨c, 0, none⟩ = some (.int .i64 i)) :
    Calls Try.prog 39 #[.int .i64 p, m.val, .pointer (some ⟨c, 0, none⟩)] w fun e w' => e = .returned (.bool (m.dst != i && m.src != i)) ∧ Below w.heap.size w w' := by
  have hcl := cell_lt3 hc
  by_cases h : m.dst = i
  · have h1 : (m.dst != i) = false := by simpa using h
    rw [h1]
    go_enter Try.func39, Try.ntmps39
    go_wp2
    go_ret
    exact ⟨rfl, by go_grown⟩
  · have h1 : (m.dst != i) = true := by simpa using h
    rw [h1]
    go_enter Try.func39, Try.ntmps39
    go_wp2
    go_ret
    exact ⟨by simp, by go_grown⟩

/-- Of the first k messages those that are wished, by place and message. -/
def kp (p : Int → M → Bool) (l : List M) : Nat → List M
  | 0 => []
  | k + 1 => kp p l k ++ (match l[k]? with
    | some m => if p k m = true then [m] else []
    | none => [])
theorem kp_yes {p : Int → M → Bool} {l : List M} {k : Nat} {m : M} (h : l[k]? = some m) (hp : p k m = true) : kp p l (k + 1) = kp p l k ++ [m] := by simp [kp, h, hp]
theorem kp_no {p : Int → M → Bool} {l : List M} {k : Nat} {m : M} (h : l[k]? = some m) (hp : p k m = false) : kp p l (k + 1) = kp p l k := by simp [kp, h, hp]
theorem kp_le (p : Int → M → Bool) (l : List M) (k : Nat) : (kp p l k).length ≤ k := by
  induction k with
  | zero => simp [kp]
  | succ k ih =>
    cases h : l[k]? with
    | none => simp [kp, h]; omega
    | some m => by_cases hp : p k m = true <;> simp [kp, h, hp] <;> omega
theorem kp_cut (q : M → Bool) (l : List M) (k : Nat) (hk : k ≤ l.length) : kp (fun _ m => q m) l k = (l.take k).filter q := by
  induction k with
  | zero => simp [kp]
  | succ k ih =>
    have h : l[k]? = some (l[k]'(by omega)) := List.getElem?_eq_getElem (by omega)
    rw [List.take_add_one, h, kp, h, ih (by omega), List.filter_append]
    cases hq : q (l[k]'(by omega)) <;> simp [hq]
theorem kp_take (i : Nat) (l : List M) (k : Nat) (hk : k ≤ l.length) : kp (fun p _ => p != (i : Int)) l k = l.take (min k i) ++ (l.take k).drop (i + 1) := by
  induction k with
  | zero => simp [kp]
  | succ k ih =>
    have h : l[k]? = some (l[k]'(by omega)) := List.getElem?_eq_getElem (by omega)
    rw [kp, h, ih (by omega)]
    by_cases h1 : k < i
    · have e1 : min (k + 1) i = k + 1 := by omega
      have e2 : min k i = k := by omega
      have e3 : ((k : Int) != (i : Int)) = true := by simp; omega
      rw [e1, e2, List.take_add_one, h]
      simp [e3]
      rw [List.drop_of_length_le (by simp; omega), List.drop_of_length_le (by simp; omega)]
      simp
    · by_cases h2 : k = i
      · subst h2
        simp
        omega
      · have e1 : min (k + 1) i = i := by omega
        have e2 : min k i = i := by omega
        have e3 : ((k : Int) != (i : Int)) = true := by simp; omega
        rw [e1, e2]
        simp [e3]
        rw [List.take_add_one, h, List.drop_append_of_le_length (by simp; omega)]
        rfl

set_option maxRecDepth 100000 in
set_option maxHeartbeats 2000000 in
theorem keep_take (b c : Nat) (row : Option Nat) (l : List M) (i : Int) (w : World) (hB : Bg w b row l) (hl : l.length ≤ 1000) (hc : w.cell? ⟨c, 0, none⟩ = some (.int .i64 i)) :
    Calls Try.prog 27 #[.pointer (some ⟨b, 0, none⟩), .func (.func 28) #[] #[.pointer (some ⟨c, 0, none⟩)]] w fun e w' => e = .returned (.int .i64 ((l.length : Int) - ((kp (fun p _ => p != i) l l.length).length : Int))) ∧ ∃ row', Bg w' b row' (kp (fun p _ => p != i) l l.length) ∧ RowOk row row' w ∧ Fr b row w w' := by
  have hbl := hB.lt
  have hcl := cell_lt3 hc
  obtain ⟨s, hs, hsf, hown, hrow⟩ := hB
  obtain ⟨i0, hi0, hz0, hz1', hz2⟩ := info_parts infoMsg
  have HF := Lib.hid hsf
  have HS := Lib.hid hs
  have HC := Lib.hid hc
  have hls : ∃ A cap, s = .slice A l.length cap ∧ ∀ j m, l[j]? = some m → ∃ g, A = some ⟨g, 0, none⟩ ∧ g < w.heap.size ∧ At w g (j * 8) m := by
    rcases hown.form with ⟨rfl, rfl⟩ | ⟨g, cap, rfl, -, hgl, -, -, hat⟩
    · exact ⟨none, 0, rfl, fun j m h => by simp at h⟩
    · exact ⟨_, _, rfl, fun j m h => ⟨g, rfl, hgl, hat j m h⟩⟩
  obtain ⟨A, cap, rfl, hat⟩ := hls
  have HA := Lib.hid hat
  clear hown hrow hsf hc hat
  go_enter Try.func27, Try.ntmps27
  go_wp2
  go_loopw [5, 14] (fun v iv wr => ∃ k : Nat, k ≤ l.length ∧ iv = .int .i64 k ∧ Owns wr w.heap.size v (kp (fun p _ => p != i) l k) ∧ Below w.heap.size w wr) (fun _ iv _ => l.length - (intOf iv).toNat)
  case atStart => exact ⟨0, Nat.zero_le _, rfl, Owns.nil _ _, Below.refl _ _⟩
  case round =>
    obtain ⟨k, hk, rfl, ho, hb⟩ := hrel
    have hz := hb.size
    by_cases hlt : k < l.length
    · have hm : l[k]? = some (l[k]'hlt) := List.getElem?_eq_getElem hlt
      obtain ⟨m, hm'⟩ : ∃ m, l[k]? = some m := ⟨_, hm⟩
      obtain ⟨g, rfl, hgl, hat⟩ := HA.out k m hm'
      have hx : ∀ o, wr.cell? ⟨g, o, none⟩ = w.cell? ⟨g, o, none⟩ := fun o => hb.cell (p := ⟨g, o, none⟩) hgl
      have c0 := (hx _).trans hat.c0
      have c1 := (hx _).trans hat.c1
      have c2 := (hx _).trans hat.c2
      have c3 := (hx _).trans hat.c3
      have c4 := (hx _).trans hat.c4
      have c5 := (hx _).trans hat.c5
      have c6 := (hx _).trans hat.c6
      have c7 := (hx _).trans hat.c7
      have hgr : g < wr.heap.size := by omega
      have hlI : (k : Int) < (l.length : Int) := by omega
      have hkI : (0 : Int) ≤ (k : Int) := by omega
      have HO := Lib.hid ho
      have HB := Lib.hid hb
      have HM := Lib.hid hm'
      clear ho hb hm hm' hat hx
      by_cases hp : ((k : Int) != i) = true
      · go_wp2_with fail
        go_at_call 28
        have hbA : Below wr.heap.size wr (wr.alloc (.cells m.cells 31)) := (Below.refl _ _).alloc (Nat.le_refl _) _
        refine (takeFn (k : Int) i m c (wr.alloc (.cells m.cells 31)) (((HB.out.trans (hbA.mono hz)).cell (p := ⟨c, 0, none⟩) hcl).trans HC.out)).mono ?_
        rintro e w1 ⟨rfl, hb1⟩
        rw [hp]
        have HP := Lib.hid hp
        have HM1 := Lib.hid ((Mat.fresh wr m 31).below hb1)
        have hbW : Below wr.heap.size wr w1 := hbA.trans (hb1.mono (by simp))
        have HO1 := Lib.hid (HO.out.below hbW)
        have HB1 := Lib.hid (HB.out.trans (hbW.mono hz))
        have hz1 : wr.heap.size < w1.heap.size := HM1.out.lt
        obtain ⟨d0, d1, d2, d3, d4, d5, d6, d7⟩ := HM1.out.all
        clear hb1 hbW hbA HB HO hp c0 c1 c2 c3 c4 c5 c6 c7
        have HN := Lib.hid (show ∀ j u, (flat [m])[j]? = some u → (w1.alloc (.cells m.cells 31)).cell? ((⟨w1.heap.size, 0, none⟩ : Addr).add j) = some u from fun j u hu => World.news_of_block (cs := m.cells) (t := 31) (fr := (0, 0)) (heap_alloc_new w1 _) j u (by rw [flat_one] at hu; exact hu))
        have hkl := kp_le (fun p _ => p != i) l k
        go_wp2_with (at_builtin; refine wpList_append_own _ rfl (.tmp 23) (.tmp 25) 27 rfl w.heap.size 31 i0 _ 8 72 Try.underlying27 hi0 hz0 hz1' hz2 rfl (by decide) u5 _ _ rfl (World.ownsRow.alloc HO1.out _) ⟨w1.heap.size, 0, none⟩ 1 1 (flat [m]) rfl (by simp [flat]) HN.out (flat_oneCell _) (by unfold maxLen; omega) (by omega) (by simp; omega) ?_; intro v w2 hown2 hgrow _)
        go_roundw
        case rel =>
          refine ⟨k + 1, by omega, by go_num, ?_, ?_⟩
          · rw [kp_yes HM.out HP.out]; unfold Owns; rw [flat_append]; simpa using hown2
          · exact (HB1.out.alloc (by omega) _).grown hgrow (by simp; omega) (fun g hg => (HO1.out.lt hg).1)
        case measure => simp [intOf]; omega
      · have hp : ((k : Int) != i) = false := by simpa using hp
        go_wp2_with fail
        go_at_call 28
        have hbA : Below wr.heap.size wr (wr.alloc (.cells m.cells 31)) := (Below.refl _ _).alloc (Nat.le_refl _) _
        refine (takeFn (k : Int) i m c (wr.alloc (.cells m.cells 31)) (((HB.out.trans (hbA.mono hz)).cell (p := ⟨c, 0, none⟩) hcl).trans HC.out)).mono ?_
        rintro e w1 ⟨rfl, hb1⟩
        rw [hp]
        have HP := Lib.hid hp
        have hbW : Below wr.heap.size wr w1 := hbA.trans (hb1.mono (by simp))
        have HO1 := Lib.hid (HO.out.below hbW)
        have HB1 := Lib.hid (HB.out.trans (hbW.mono hz))
        clear hb1 hbW hbA HB HO hp c0 c1 c2 c3 c4 c5 c6 c7
        go_wp2
        go_roundw
        case rel => exact ⟨k + 1, by omega, by go_num, by rw [kp_no HM.out HP.out]; exact HO1.out, HB1.out⟩
        case measure => simp [intOf]; omega
    · have hlI : ¬ ((k : Int) < (l.length : Int)) := by omega
      have hkl : k = l.length := by omega
      subst hkl
      have d0 := (hb.cell (p := ⟨b, 0, none⟩) hbl).trans HS.out
      have df := (hb.frozen (p := ⟨b, 0, none⟩) hbl).trans HF.out
      have hkl := kp_le (fun p _ => p != i) l l.length
      obtain ⟨kl, hkk⟩ : ∃ kl, kp (fun p _ => p != i) l l.length = kl := ⟨_, rfl⟩
      have HK := Lib.hid hkk
      rw [hkk] at ho hkl
      clear hkk
      have hbr : b < wr.heap.size := by omega
      have HO := Lib.hid ho
      have HB := Lib.hid hb
      have hlen : ∃ A' cap', u5 = .slice A' kl.length cap' := by
        rcases ho.form with ⟨rfl, rfl⟩ | ⟨g, cap, rfl, -⟩
        · exact ⟨none, 0, rfl⟩
        · exact ⟨_, _, rfl⟩
      obtain ⟨A', cap', rfl⟩ := hlen
      clear ho hb
      go_wp2
      go_ret
      rw [HK.out]
      refine ⟨rfl, _, Bg.stored d0 df (HO.out.mono (show b + 1 ≤ w.heap.size by omega)), ?_, Fr.set (Fr.of_below HB.out)⟩
      rcases HO.out.form with ⟨h, -⟩ | ⟨g, cap, h, hg, -⟩
      · rw [h]; exact .inr (.inl rfl)
      · rw [h]; exact .inr (.inr ⟨g, rfl, hg⟩)

set_option maxRecDepth 100000 in
set_option maxHeartbeats 2000000 in
theorem keep_cut (b c : Nat) (row : Option Nat) (l : List M) (i : Int) (w : World) (hB : Bg w b row l) (hl : l.length ≤ 1000) (hc : w.cell? ⟨c, 0, none⟩ = some (.int .i64 i)) :
    Calls Try.prog 27 #[.pointer (some ⟨b, 0, none⟩), .func (.func 39) #[] #[.pointer (some ⟨c, 0, none⟩)]] w fun e w' => e = .returned (.int .i64 ((l.length : Int) - ((kp (fun _ m => m.dst != i && m.src != i) l l.length).length : Int))) ∧ ∃ row', Bg w' b row' (kp (fun _ m => m.dst != i && m.src != i) l l.length) ∧ RowOk row row' w ∧ Fr b row w w' := by
  have hbl := hB.lt
  have hcl := cell_lt3 hc
  obtain ⟨s, hs, hsf, hown, hrow⟩ := hB
  obtain ⟨i0, hi0, hz0, hz1', hz2⟩ := info_parts infoMsg
  have HF := Lib.hid hsf
  have HS := Lib.hid hs
  have HC := Lib.hid hc
  have hls : ∃ A cap, s = .slice A l.length cap ∧ ∀ j m, l[j]? = some m → ∃ g, A = some ⟨g, 0, none⟩ ∧ g < w.heap.size ∧ At w g (j * 8) m := by
    rcases hown.form with ⟨rfl, rfl⟩ | ⟨g, cap, rfl, -, hgl, -, -, hat⟩
    · exact ⟨none, 0, rfl, fun j m h => by simp at h⟩
    · exact ⟨_, _, rfl, fun j m h => ⟨g, rfl, hgl, hat j m h⟩⟩
  obtain ⟨A, cap, rfl, hat⟩ := hls
  have HA := Lib.hid hat
  clear hown hrow hsf hc hat
  go_enter Try.func27, Try.ntmps27
  go_wp2
  go_loopw [5, 14] (fun v iv wr => ∃ k : Nat, k ≤ l.length ∧ iv = .int .i64 k ∧ Owns wr w.heap.size v (kp (fun _ m => m.dst != i && m.src != i) l k) ∧ Below w.heap.size w wr) (fun _ iv _ => l.length - (intOf iv).toNat)
  case atStart => exact ⟨0, Nat.zero_le _, rfl, Owns.nil _ _, Below.refl _ _⟩
  case round =>
    obtain ⟨k, hk, rfl, ho, hb⟩ := hrel
    have hz := hb.size
    by_cases hlt : k < l.length
    · have hm : l[k]? = some (l[k]'hlt) := List.getElem?_eq_getElem hlt
      obtain ⟨m, hm'⟩ : ∃ m, l[k]? = some m := ⟨_, hm⟩
      obtain ⟨g, rfl, hgl, hat⟩ := HA.out k m hm'
      have hx : ∀ o, wr.cell? ⟨g, o, none⟩ = w.cell? ⟨g, o, none⟩ := fun o => hb.cell (p := ⟨g, o, none⟩) hgl
      have c0 := (hx _).trans hat.c0
      have c1 := (hx _).trans hat.c1
      have c2 := (hx _).trans hat.c2
      have c3 := (hx _).trans hat.c3
      have c4 := (hx _).trans hat.c4
      have c5 := (hx _).trans hat.c5
      have c6 := (hx _).trans hat.c6
      have c7 := (hx _).trans hat.c7
      have hgr : g < wr.heap.size := by omega
      have hlI : (k : Int) < (l.length : Int) := by omega
      have hkI : (0 : Int) ≤ (k : Int) := by omega
      have HO := Lib.hid ho
      have HB := Lib.hid hb
      have HM := Lib.hid hm'
      clear ho hb hm hm' hat hx
      by_cases hp : (m.dst != i && m.src != i) = true
      · go_wp2_with fail
        go_at_call 39
        have hbA : Below wr.heap.size wr (wr.alloc (.cells m.cells 31)) := (Below.refl _ _).alloc (Nat.le_refl _) _
        refine (cutFn (k : Int) i m c (wr.alloc (.cells m.cells 31)) (((HB.out.trans (hbA.mono hz)).cell (p := ⟨c, 0, none⟩) hcl).trans HC.out)).mono ?_
        rintro e w1 ⟨rfl, hb1⟩
        rw [hp]
        have HP := Lib.hid hp
        have HM1 := Lib.hid ((Mat.fresh wr m 31).below hb1)
        have hbW : Below wr.heap.size wr w1 := hbA.trans (hb1.mono (by simp))
        have HO1 := Lib.hid (HO.out.below hbW)
        have HB1 := Lib.hid (HB.out.trans (hbW.mono hz))
        have hz1 : wr.heap.size < w1.heap.size := HM1.out.lt
        obtain ⟨d0, d1, d2, d3, d4, d5, d6, d7⟩ := HM1.out.all
        clear hb1 hbW hbA HB HO hp c0 c1 c2 c3 c4 c5 c6 c7
        have HN := Lib.hid (show ∀ j u, (flat [m])[j]? = some u → (w1.alloc (.cells m.cells 31)).cell? ((⟨w1.heap.size, 0, none⟩ : Addr).add j) = some u from fun j u hu => World.news_of_block (cs := m.cells) (t := 31) (fr := (0, 0)) (heap_alloc_new w1 _) j u (by rw [flat_one] at hu; exact hu))
        have hkl := kp_le (fun _ m => m.dst != i && m.src != i) l k
        go_wp2_with (at_builtin; refine wpList_append_own _ rfl (.tmp 23) (.tmp 25) 27 rfl w.heap.size 31 i0 _ 8 72 Try.underlying27 hi0 hz0 hz1' hz2 rfl (by decide) u5 _ _ rfl (World.ownsRow.alloc HO1.out _) ⟨w1.heap.size, 0, none⟩ 1 1 (flat [m]) rfl (by simp [flat]) HN.out (flat_oneCell _) (by unfold maxLen; omega) (by omega) (by simp; omega) ?_; intro v w2 hown2 hgrow _)
        go_roundw
        case rel =>
          refine ⟨k + 1, by omega, by go_num, ?_, ?_⟩
          · rw [kp_yes HM.out HP.out]; unfold Owns; rw [flat_append]; simpa using hown2
          · exact (HB1.out.alloc (by omega) _).grown hgrow (by simp; omega) (fun g hg => (HO1.out.lt hg).1)
        case measure => simp [intOf]; omega
      · have hp : (m.dst != i && m.src != i) = false := by simpa using hp
        go_wp2_with fail
        go_at_call 39
        have hbA : Below wr.heap.size wr (wr.alloc (.cells m.cells 31)) := (Below.refl _ _).alloc (Nat.le_refl _) _
        refine (cutFn (k : Int) i m c (wr.alloc (.cells m.cells 31)) (((HB.out.trans (hbA.mono hz)).cell (p := ⟨c, 0, none⟩) hcl).trans HC.out)).mono ?_
        rintro e w1 ⟨rfl, hb1⟩
        rw [hp]
        have HP := Lib.hid hp
        have hbW : Below wr.heap.size wr w1 := hbA.trans (hb1.mono (by simp))
        have HO1 := Lib.hid (HO.out.below hbW)
        have HB1 := Lib.hid (HB.out.trans (hbW.mono hz))
        clear hb1 hbW hbA HB HO hp c0 c1 c2 c3 c4 c5 c6 c7
        go_wp2
        go_roundw
        case rel => exact ⟨k + 1, by omega, by go_num, by rw [kp_no HM.out HP.out]; exact HO1.out, HB1.out⟩
        case measure => simp [intOf]; omega
    · have hlI : ¬ ((k : Int) < (l.length : Int)) := by omega
      have hkl : k = l.length := by omega
      subst hkl
      have d0 := (hb.cell (p := ⟨b, 0, none⟩) hbl).trans HS.out
      have df := (hb.frozen (p := ⟨b, 0, none⟩) hbl).trans HF.out
      have hkl := kp_le (fun _ m => m.dst != i && m.src != i) l l.length
      obtain ⟨kl, hkk⟩ : ∃ kl, kp (fun _ m => m.dst != i && m.src != i) l l.length = kl := ⟨_, rfl⟩
      have HK := Lib.hid hkk
      rw [hkk] at ho hkl
      clear hkk
      have hbr : b < wr.heap.size := by omega
      have HO := Lib.hid ho
      have HB := Lib.hid hb
      have hlen : ∃ A' cap', u5 = .slice A' kl.length cap' := by
        rcases ho.form with ⟨rfl, rfl⟩ | ⟨g, cap, rfl, -⟩
        · exact ⟨none, 0, rfl⟩
        · exact ⟨_, _, rfl⟩
      obtain ⟨A', cap', rfl⟩ := hlen
      clear ho hb
      go_wp2
      go_ret
      rw [HK.out]
      refine ⟨rfl, _, Bg.stored d0 df (HO.out.mono (show b + 1 ≤ w.heap.size by omega)), ?_, Fr.set (Fr.of_below HB.out)⟩
      rcases HO.out.form with ⟨h, -⟩ | ⟨g, cap, h, hg, -⟩
      · rw [h]; exact .inr (.inl rfl)
      · rw [h]; exact .inr (.inr ⟨g, rfl, hg⟩)

end Go.Proofs.Ythcoghgpdcnhlaa
