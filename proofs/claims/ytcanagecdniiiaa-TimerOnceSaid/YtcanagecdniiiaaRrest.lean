/-
  The document's own Stop, Next, Due and Clear (weirkeepref06), by contracts.
-/
import Derived.Test.YtcanagecdniiiaaRset
import Derived.Test.YtcanagecdniiiaaNext
namespace Go.Proofs.Ytcanagecdniiiaa
open Go.RowKit

theorem wo_len_eq {l : List Al} (h : Good l) (n t : Int) : ((wo l n t).length = l.length) ↔ hasA l n t = false := by
  have := wo_length h n t
  cases hh : hasA l n t
  · rw [hh] at this; simp at this; simp [this]
  · rw [hh] at this; simp at this; simp; omega

set_option maxRecDepth 100000 in
set_option maxHeartbeats 4000000 in
theorem rstop_any (B : Nat) (l : List Al) (n t : Int) (w : World) (h : Rf w B l) (hG : Good l) :
    Calls Try.prog 22 #[.pointer (some ⟨B, 0, none⟩), .int .i64 n, .int .i64 t] w fun e w' => e = .returned (.int .i64 (stopE l n t)) ∧ Rf w' B (wo l n t) ∧ w.grownBy w' (some B) := by
  have hle := hG.le
  have hwl := wo_len_eq hG n t
  have HW := Lib.hid (without_any B l n t w h (by omega))
  have R0 := Lib.hid h
  have hww : hasA l n t = false → wo l n t = l := wo_self
  have hst : stopE l n t = if hasA l n t then 0 else 3 := rfl
  obtain ⟨L, hL⟩ : ∃ L, wo l n t = L := ⟨_, rfl⟩
  rw [hL] at HW hwl hww ⊢
  clear h hL
  cases hh : hasA l n t
  · have e2 := hww hh
    have e3 := hwl.2 hh
    rw [hst, hh]
    clear hst hww hwl hh
    go_enter Try.func22, Try.ntmps22
    go_wp2_with fail
    go_at_call 29
    refine HW.out.mono ?_
    rintro e w2 ⟨v, rfl, k1, k2⟩
    have K1 := Lib.hid (R0.out.below k2)
    have K2 := Lib.hid (grown_of_below k2 (some B))
    obtain ⟨A1, c1, rfl⟩ := k1.shape
    obtain ⟨s, hs, -, ho, -⟩ := K1.out.open'
    obtain ⟨A2, c2, rfl⟩ := ho.shape
    subst e2
    clear k1 k2 ho e3
    go_wp2
    go_ret
    exact ⟨rfl, K1.out, K2.out⟩
  · have e3 : ((L.length : Int) == (l.length : Int)) = false := by
      have : ¬ (L.length = l.length) := fun e => by rw [hwl.1 e] at hh; cases hh
      simp; omega
    rw [hst, hh]
    clear hst hww hwl hh
    go_enter Try.func22, Try.ntmps22
    go_wp2_with fail
    go_at_call 29
    refine HW.out.mono ?_
    rintro e w2 ⟨v, rfl, k1, k2⟩
    obtain ⟨A1, c1, rfl⟩ := k1.shape
    have K3 := Lib.hid (R0.out.anew k2 k1)
    obtain ⟨s, hs, hf, ho, -⟩ := (R0.out.below k2).open'
    obtain ⟨A2, c2, rfl⟩ := ho.shape
    clear k1 k2 ho
    go_wp2
    go_ret
    exact ⟨rfl, K3.out.1, K3.out.2⟩

set_option maxRecDepth 100000 in
set_option maxHeartbeats 4000000 in
theorem rclear_any (B : Nat) (l : List Al) (n : Int) (w : World) (h : Rf w B l) (hl : l.length ≤ 1000) :
    Calls Try.prog 23 #[.pointer (some ⟨B, 0, none⟩), .int .i64 n] w fun e w' => e = .returned (.int .i64 (ofNode l n).length) ∧ Rf w' B (clearL l n) ∧ w.grownBy w' (some B) := by
  obtain ⟨i0, hi0, hz0, hz1, hz2⟩ := info_parts infoR
  have hBl := h.lt
  have R0 := Lib.hid h
  obtain ⟨s, hs, -, ho, -⟩ := h.open'
  obtain ⟨A, cap, rfl⟩ := ho.shape
  have HS := Lib.hid hs
  have HO := Lib.hid ho
  clear h ho
  have hb1 : Below w.heap.size w (w.alloc (.cells #[] 40)) := (Below.refl _ _).alloc (Nat.le_refl _) _
  have B1 := Lib.hid hb1
  have O1 := Lib.hid (Owns.lit (e := 40) (w := w) (Nat.le_refl w.heap.size))
  clear hb1
  go_enter Try.func23, Try.ntmps23
  go_wp2
  clear hs
  go_loopw [5, 6] (fun u iv wr => ∃ k : Nat, k ≤ l.length ∧ iv = .int .i64 k ∧ Owns 40 wr w.heap.size u (clearL (l.take k) n) ∧ Below w.heap.size w wr) (fun _ iv _ => l.length - (intOf iv).toNat)
  case atStart => exact ⟨0, Nat.zero_le _, rfl, O1.out, B1.out⟩
  case round =>
    obtain ⟨k, hk, rfl, hown, hB⟩ := hrel
    have O2 := Lib.hid hown
    have B2 := Lib.hid hB
    clear hown hB
    have hzs : w.heap.size ≤ wr.heap.size := B2.out.size
    have c0 := (B2.out.cell (p := ⟨B, 0, none⟩) hBl).trans HS.out
    by_cases hlt : k < l.length
    · obtain ⟨m, hm⟩ : ∃ m, l[k]? = some m := ⟨_, List.getElem?_eq_getElem hlt⟩
      have hlI : (k : Int) < (l.length : Int) := by omega
      have hkI : (0 : Int) ≤ (k : Int) := by omega
      rcases (HO.out.below B2.out).form with ⟨-, rfl⟩ | ⟨g, cap', e1, hbg, hgl, -, -, hat⟩
      · simp at hlt
      cases e1
      obtain ⟨d0, d1, d2⟩ := hat k m hm
      clear hat
      have hle' : (clearL (l.take k) n).length ≤ 1000 := Nat.le_trans (filter_take_le l _ k) hl
      by_cases hi : m.n = n
      · have e2 := filter_take_no l (fun x => !decide (x.n = n)) k m hm (by simpa using hi)
        have K := Lib.hid (show Owns _ wr w.heap.size _ (clearL (l.take (k + 1)) n) from by have := O2.out; unfold clearL at this ⊢; rw [e2]; exact this)
        subst hi
        clear hm e2
        go_wp2
        go_roundw
        case rel => exact ⟨k + 1, by omega, by go_num, K.out, B2.out⟩
        case measure => simp [intOf]; omega
      · have e2 := filter_take_yes l (fun x => !decide (x.n = n)) k m hm (by simpa using hi)
        have E2 := Lib.hid (show clearL (l.take (k + 1)) n = clearL (l.take k) n ++ [m] from e2)
        have p1 : (m.n == n) = false := by simpa using hi
        clear hm e2 hi
        go_wp2_with (at_builtin; refine wpList_append_lies _ rfl (.tmp 28) (.tmp 36) 26 rfl w.heap.size 40 i0 _ 3 24 Try.underlying26 hi0 hz0 hz1 hz2 rfl (by decide) _ _ _ rfl (O2.out.below (below_al wr m)) ⟨wr.heap.size, 0, none⟩ 1 1 (flat [m]) rfl (by simp [flat]) (news1 wr m 40) (flat_oneCell _) (by decide) (by unfold maxLen; omega) (by omega) (by simp; omega) (wr.heap.size + 1) (by simp) ?_; intro g3 cap3 w3 hown hgrow hat3 _; (have P3 := Lib.hid (Owns.snoc hown)); (have Q3 := Lib.hid (below_grown (B2.out.trans ((below_al wr m).mono hzs)) hgrow (by simp; omega) (fun k hk => (O2.out.lt hk).1))); clear hown hgrow)
        go_roundw
        case rel => exact ⟨k + 1, by omega, by go_num, by rw [E2.out]; simpa using P3.out, Q3.out⟩
        case measure => simp [intOf]; omega
    · have hlI : ¬ ((k : Int) < (l.length : Int)) := by omega
      obtain rfl : k = l.length := by omega
      have K := Lib.hid (show Owns _ wr w.heap.size _ (clearL l n) from by have := O2.out; rwa [List.take_length] at this)
      clear O2
      have hlen : ((l.length : Int) - ((clearL l n).length : Int)) = ((ofNode l n).length : Int) := by
        have := filter_len l (fun x => decide (x.n = n))
        unfold clearL ofNode; omega
      have hcl : (clearL l n).length ≤ l.length := List.length_filter_le _ _
      have HL := Lib.hid hlen
      obtain ⟨A6, c6, e6⟩ := K.out.shape
      subst e6
      obtain ⟨s6, hs6, hf6, -, -⟩ := (R0.out.below B2.out).open'
      have K3 := Lib.hid (R0.out.anew B2.out K.out)
      generalize (clearL l n).length = nc at HL hcl K3 K hlen ⊢
      obtain ⟨r, hr⟩ : ∃ r, (ofNode l n).length = r := ⟨_, rfl⟩
      have hr' : (l.length : Int) - (nc : Int) = (r : Int) := by rw [hlen, hr]
      have HR := Lib.hid hr
      clear hlen hr HL
      go_wp2
      go_ret
      rw [HR.out]
      exact ⟨by first | rfl | (simp; omega), K3.out.1, K3.out.2⟩

set_option maxRecDepth 100000 in
set_option maxHeartbeats 8000000 in
theorem rdue_any (B : Nat) (l : List Al) (n now : Int) (w : World) (h : Rf w B l) (hl : l.length ≤ 1000) :
    Calls Try.prog 19 #[.pointer (some ⟨B, 0, none⟩), .int .i64 n, .int .i64 now] w fun e w' => ∃ v, e = .returned v ∧ Owns 40 w' w.heap.size v (dueL l n now) ∧ Rf w' B (leftL l n now) ∧ w.grownBy w' (some B) := by
  obtain ⟨i0, hi0, hz0, hz1, hz2⟩ := info_parts infoR
  have hBl := h.lt
  have R0 := Lib.hid h
  obtain ⟨s, hs, -, ho, -⟩ := h.open'
  obtain ⟨A, cap, rfl⟩ := ho.shape
  have HS := Lib.hid hs
  have HO := Lib.hid ho
  clear h ho
  have hb1 : Below w.heap.size w (w.alloc (.cells #[] 40)) := (Below.refl _ _).alloc (Nat.le_refl _) _
  have hb2 : Below w.heap.size w ((w.alloc (.cells #[] 40)).alloc (.cells #[] 40)) := hb1.alloc (by simp) _
  have B1 := Lib.hid hb2
  have O1 := Lib.hid ((Owns.lit (e := 40) (w := w) (Nat.le_refl w.heap.size)).below ((Below.refl _ _).alloc (Nat.le_refl _) (.cells #[] 40)))
  have O1' := Lib.hid (Owns.lit2 (e := 40) w w.heap.size (.cells #[] 40) (by omega))
  clear hb1 hb2
  go_enter Try.func19, Try.ntmps19
  go_wp2
  clear hs
  go_loopw [7, 8, 9] (fun u u' iv wr => ∃ k : Nat, k ≤ l.length ∧ iv = .int .i64 k ∧ Owns 40 wr w.heap.size u (dueL (l.take k) n now) ∧ Owns 40 wr w.heap.size u' (leftL (l.take k) n now) ∧ (∀ g, u.ownBlock = some g → u'.ownBlock ≠ some g) ∧ Below w.heap.size w wr) (fun _ _ iv _ => l.length - (intOf iv).toNat)
  case atStart => exact ⟨0, Nat.zero_le _, rfl, O1.out, O1'.out, fun g hg e => by simp [Value.ownBlock] at hg e; omega, B1.out⟩
  case round =>
    obtain ⟨k, hk, rfl, hown, hown', hne, hB⟩ := hrel
    have O2 := Lib.hid hown
    have O2' := Lib.hid hown'
    have HNe := Lib.hid hne
    have B2 := Lib.hid hB
    clear hown hown' hne hB
    have hzs : w.heap.size ≤ wr.heap.size := B2.out.size
    have c0 := (B2.out.cell (p := ⟨B, 0, none⟩) hBl).trans HS.out
    by_cases hlt : k < l.length
    · obtain ⟨m, hm⟩ : ∃ m, l[k]? = some m := ⟨_, List.getElem?_eq_getElem hlt⟩
      have hlI : (k : Int) < (l.length : Int) := by omega
      have hkI : (0 : Int) ≤ (k : Int) := by omega
      rcases (HO.out.below B2.out).form with ⟨-, rfl⟩ | ⟨g, cap', e1, hbg, hgl, -, -, hat⟩
      · simp at hlt
      cases e1
      obtain ⟨d0, d1, d2⟩ := hat k m hm
      clear hat
      have hle' : (dueL (l.take k) n now).length ≤ 1000 := Nat.le_trans (filter_take_le l _ k) hl
      have hle2 : (leftL (l.take k) n now).length ≤ 1000 := Nat.le_trans (filter_take_le l _ k) hl
      by_cases hi : m.n = n ∧ m.a ≤ now
      · have e2 := filter_take_yes l (fun x => decide (x.n = n ∧ x.a ≤ now)) k m hm (by simpa using hi)
        have e3 := filter_take_no l (fun x => !decide (x.n = n ∧ x.a ≤ now)) k m hm (by simpa using hi)
        have E2 := Lib.hid (show dueL (l.take (k + 1)) n now = dueL (l.take k) n now ++ [m] from e2)
        have E3 := Lib.hid (show leftL (l.take (k + 1)) n now = leftL (l.take k) n now from e3)
        obtain ⟨rfl, i2⟩ := hi
        clear hm e2 e3
        go_wp2_with (at_builtin; refine wpList_append_lies _ rfl (.tmp 43) (.tmp 51) 26 rfl w.heap.size 40 i0 _ 3 24 Try.underlying26 hi0 hz0 hz1 hz2 rfl (by decide) _ _ _ rfl (O2.out.below (below_al wr m)) ⟨wr.heap.size, 0, none⟩ 1 1 (flat [m]) rfl (by simp [flat]) (news1 wr m 40) (flat_oneCell _) (by decide) (by unfold maxLen; omega) (by omega) (by simp; omega) (wr.heap.size + 1) (by simp) ?_; intro g3 cap3 w3 hown hgrow hat3 _; (have P3 := Lib.hid (Owns.snoc hown)); (have Q3 := Lib.hid (below_grown (B2.out.trans ((below_al wr m).mono hzs)) hgrow (by simp; omega) (fun k hk => (O2.out.lt hk).1))); (have T3 := Lib.hid ((O2'.out.below (below_al wr m)).grown hgrow (fun g hg e => HNe.out g e.symm hg))); clear hown hgrow)
        go_roundw
        case rel =>
          refine ⟨k + 1, by omega, by go_num, by rw [E2.out]; simpa using P3.out, by rw [E3.out]; exact T3.out, fun g hg e => ?_, Q3.out⟩
          have hg' : g3 = g := by simpa [Value.ownBlock] using hg
          subst hg'
          rcases hat3 with h3 | h3
          · exact HNe.out _ h3 e
          · have := (O2'.out.lt e).2; omega
        case measure => simp [intOf]; omega
      · have e2 := filter_take_no l (fun x => decide (x.n = n ∧ x.a ≤ now)) k m hm (decide_eq_false hi)
        have e3 := filter_take_yes l (fun x => !decide (x.n = n ∧ x.a ≤ now)) k m hm (by show (!decide (m.n = n ∧ m.a ≤ now)) = true; rw [decide_eq_false hi]; rfl)
        have E2 := Lib.hid (show dueL (l.take (k + 1)) n now = dueL (l.take k) n now from e2)
        have E3 := Lib.hid (show leftL (l.take (k + 1)) n now = leftL (l.take k) n now ++ [m] from e3)
        have hor : (m.n == n) = false ∨ (m.n = n ∧ ¬ (m.a ≤ now)) := by
          by_cases hq : m.n = n
          · exact .inr ⟨hq, fun hq2 => hi ⟨hq, hq2⟩⟩
          · exact .inl (by simpa using hq)
        clear hm e2 e3 hi
        rcases hor with p1 | ⟨rfl, p2⟩
        all_goals
          go_wp2_with (at_builtin; refine wpList_append_lies _ rfl (.tmp 53) (.tmp 61) 26 rfl w.heap.size 40 i0 _ 3 24 Try.underlying26 hi0 hz0 hz1 hz2 rfl (by decide) _ _ _ rfl (O2'.out.below (below_al wr m)) ⟨wr.heap.size, 0, none⟩ 1 1 (flat [m]) rfl (by simp [flat]) (news1 wr m 40) (flat_oneCell _) (by decide) (by unfold maxLen; omega) (by omega) (by simp; omega) (wr.heap.size + 1) (by simp) ?_; intro g3 cap3 w3 hown hgrow hat3 _; (have P3 := Lib.hid (Owns.snoc hown)); (have Q3 := Lib.hid (below_grown (B2.out.trans ((below_al wr m).mono hzs)) hgrow (by simp; omega) (fun k hk => (O2'.out.lt hk).1))); (have T3 := Lib.hid ((O2.out.below (below_al wr m)).grown hgrow (fun g hg e => HNe.out g hg e.symm))); clear hown hgrow)
          go_roundw
          case rel =>
            refine ⟨k + 1, by omega, by go_num, by rw [E2.out]; exact T3.out, by rw [E3.out]; simpa using P3.out, fun g hg e => ?_, Q3.out⟩
            have hg' : g3 = g := by simpa [Value.ownBlock] using e
            subst hg'
            rcases hat3 with h3 | h3
            · exact HNe.out _ hg h3
            · have := (O2.out.lt hg).2; omega
          case measure => simp [intOf]; omega
    · have hlI : ¬ ((k : Int) < (l.length : Int)) := by omega
      obtain rfl : k = l.length := by omega
      have K := Lib.hid (show Owns _ wr w.heap.size _ (dueL l n now) from by have := O2.out; rwa [List.take_length] at this)
      have K' := Lib.hid (show Owns _ wr w.heap.size _ (leftL l n now) from by have := O2'.out; rwa [List.take_length] at this)
      clear O2 O2'
      obtain ⟨A6, c6, e6⟩ := K'.out.shape
      subst e6
      obtain ⟨s6, hs6, hf6, -, -⟩ := (R0.out.below B2.out).open'
      have K3 := Lib.hid (R0.out.anew B2.out K'.out)
      have K4 := Lib.hid (fun v => K.out.kept (w' := wr.setCell ⟨B, 0, none⟩ v) (fun g hg => Below.heap_setCell _ _ _ _ (fun e => by
        have h9 := (K.out.lt hg).1
        simp at e; omega)))
      clear K K'
      go_wp2
      go_ret
      exact ⟨_, rfl, K4.out _, K3.out.1, K3.out.2⟩

set_option maxRecDepth 100000 in
set_option maxHeartbeats 4000000 in
theorem rnext_any (B : Nat) (l : List Al) (n : Int) (w : World) (h : Rf w B l) (hl : l.length ≤ 1000) :
    Calls Try.prog 14 #[.pointer (some ⟨B, 0, none⟩), .int .i64 n] w fun e w' => e = .returned (.tuple #[(nextA l n).val, .bool (nextB l n)]) ∧ Below w.heap.size w w' := by
  obtain ⟨na, hna⟩ : ∃ a, nextA l n = a := ⟨_, rfl⟩
  obtain ⟨nb, hnb⟩ : ∃ a, nextB l n = a := ⟨_, rfl⟩
  rw [hna, hnb]
  have hBl := h.lt
  have R0 := Lib.hid h
  obtain ⟨s, hs, -, ho, -⟩ := h.open'
  obtain ⟨A, cap, rfl⟩ := ho.shape
  have HS := Lib.hid hs
  have HO := Lib.hid ho
  clear h ho
  have hb1 : Below w.heap.size w (w.alloc (.cells Al.zero.cells 40)) := (Below.refl _ _).alloc (Nat.le_refl _) _
  have B1 := Lib.hid hb1
  have X1 := Lib.hid (AB.fresh 40 w Al.zero)
  clear hb1 hs
  go_enter Try.func14, Try.ntmps14
  go_wp2
  go_loopw [6] (fun iv wr => ∃ k : Nat, k ≤ l.length ∧ iv = .int .i64 k ∧ (∀ j x, j < k → l[j]? = some x → x.n ≠ n) ∧ AB 40 wr w.heap.size Al.zero ∧ Below w.heap.size w wr) (fun iv _ => l.length - (intOf iv).toNat)
  case atStart => exact ⟨0, Nat.zero_le _, rfl, fun j x hj => by omega, X1.out, B1.out⟩
  case round =>
    obtain ⟨k, hk, rfl, h0, hX, hB⟩ := hrel
    have X3 := Lib.hid hX
    have B2 := Lib.hid hB
    have H0 := Lib.hid h0
    clear hX hB h0
    have hzs : w.heap.size ≤ wr.heap.size := B2.out.size
    have c0 := (B2.out.cell (p := ⟨B, 0, none⟩) hBl).trans HS.out
    by_cases hlt : k < l.length
    · obtain ⟨m, hm⟩ : ∃ m, l[k]? = some m := ⟨_, List.getElem?_eq_getElem hlt⟩
      have hlI : (k : Int) < (l.length : Int) := by omega
      have hkI : (0 : Int) ≤ (k : Int) := by omega
      rcases (HO.out.below B2.out).form with ⟨-, rfl⟩ | ⟨g, cap', e1, hbg, hgl, -, -, hat⟩
      · simp at hlt
      cases e1
      obtain ⟨d0, d1, d2⟩ := hat k m hm
      clear hat
      by_cases hq : m.n = n
      · obtain ⟨e1, e2⟩ := next_at H0.out hm hq
        obtain rfl : na = m := hna.symm.trans e1
        obtain rfl : nb = true := hnb.symm.trans e2
        subst hq
        clear e1 e2 hna hnb
        go_wp2_with ((with_reducible show wpList _ _ _ (Oper.mk none (Op.store _ (.tmp 4) _) _ _ _ _ :: _) _ _); refine wpList_store_al40 rfl (.tmp 4) (.tmp 32) rfl w.heap.size na Al.zero rfl rfl X3.out ?_; intro wF k1 k2; obtain ⟨d0, d1, d2⟩ := k1.all; have B5 := Lib.hid (below_grown B2.out k2 B2.out.size (by rintro k ⟨rfl⟩; exact Nat.le_refl _)); clear k1 k2)
        exact bodyPost_ret (v := .tuple #[na.val, .bool true]) (by simp [results, Try.results14, go_sem, d0, d1, d2]) rfl ⟨rfl, B5.out⟩
      · have hq1 : (m.n == n) = false := by simpa using hq
        go_wp2
        go_roundw
        case rel =>
          refine ⟨k + 1, by omega, by go_num, fun j x hj hx => ?_, X3.out, B2.out⟩
          rcases Nat.lt_or_ge j k with h | h
          · exact H0.out j x h hx
          · obtain rfl : j = k := by omega
            rw [hm] at hx; cases hx; exact hq
        case measure => simp [intOf]; omega
    · have hlI : ¬ ((k : Int) < (l.length : Int)) := by omega
      obtain rfl : k = l.length := by omega
      obtain ⟨e1, e2⟩ := next_no H0.out
      obtain rfl : na = Al.zero := hna.symm.trans e1
      obtain rfl : nb = false := hnb.symm.trans e2
      clear e1 e2 hna hnb
      go_wp2_with ((with_reducible show wpList _ _ _ (Oper.mk none (Op.store _ (.tmp 4) _) _ _ _ _ :: _) _ _); refine wpList_store_al40 rfl (.tmp 4) (.tmp 33) rfl w.heap.size Al.zero Al.zero rfl rfl X3.out ?_; intro wF k1 k2; obtain ⟨d0, d1, d2⟩ := k1.all; have B5 := Lib.hid (below_grown B2.out k2 B2.out.size (by rintro k ⟨rfl⟩; exact Nat.le_refl _)); clear k1 k2)
      exact bodyPost_ret (v := .tuple #[Al.zero.val, .bool false]) (by simp [results, Try.results14, go_sem, d0, d1, d2]) rfl ⟨rfl, B5.out⟩
end Go.Proofs.Ytcanagecdniiiaa
