/-
  The document's own Set (weirkeepref06), by a contract.
-/
import Derived.Test.YtcanagecdniiiaaRef1
namespace Go.Proofs.Ytcanagecdniiiaa
open Go.RowKit

/-- Room, as the document asks for it. -/
theorem setE_wo {l : List Al} (h : Good l) {x : Al} (hx : x.ok) : setE l x = if 64 ≤ (wo l x.n x.t).length then 2 else 0 := by
  unfold setE
  rw [if_neg (by simpa using hx)]
  have hw := wo_length h x.n x.t
  have hle := h.le
  cases hh : hasA l x.n x.t
  · rw [hh] at hw
    simp only [Bool.false_eq_true, if_false, Nat.add_zero] at hw
    rw [hw]; simp
  · rw [hh] at hw
    simp only [if_true] at hw
    rw [if_neg (by simp), if_neg (by omega)]
theorem below_al (w : World) (y : Al) : Below w.heap.size w (w.alloc (.cells y.cells 40)) := (Below.refl _ _).alloc (Nat.le_refl _) _
/-- The alarm's cells, and those of the one that it is held against. -/
def XC (w : World) (z g o : Nat) (x m : Al) : Prop := w.cell? ⟨z, 0, none⟩ = some (.int .i64 x.n) ∧ w.cell? ⟨z, 1, none⟩ = some (.int .i64 x.a) ∧ w.cell? ⟨z, 2, none⟩ = some (.int .i64 x.t) ∧ w.cell? ⟨g, o, none⟩ = some (.int .i64 m.n) ∧ w.cell? ⟨g, o + 1, none⟩ = some (.int .i64 m.a) ∧ w.cell? ⟨g, o + 2, none⟩ = some (.int .i64 m.t)
theorem At.below' {B : Nat} {w w' : World} {g o : Nat} {m : Al} (h : At w g o m) (hb : Below B w w') (hg : g < B) : At w' g o m :=
  ⟨(hb.cell (p := ⟨g, o, none⟩) hg).trans h.c0, (hb.cell (p := ⟨g, o + 1, none⟩) hg).trans h.c1, (hb.cell (p := ⟨g, o + 2, none⟩) hg).trans h.c2⟩

set_option maxRecDepth 100000 in
set_option maxHeartbeats 4000000 in
theorem rset_arg (B : Nat) (l : List Al) (x : Al) (w : World) (h : Rf w B l) (hx : ¬ x.ok) :
    Calls Try.prog 17 #[.pointer (some ⟨B, 0, none⟩), x.val] w fun e w' => e = .returned (.int .i64 1) ∧ Rf w' B l ∧ w.grownBy w' (some B) := by
  have hb1 : Below w.heap.size w (w.alloc (.cells x.cells 40)) := (Below.refl _ _).alloc (Nat.le_refl _) _
  have K1 := Lib.hid (h.below hb1)
  have K2 := Lib.hid (grown_of_below hb1 (some B))
  clear h hb1
  obtain ⟨n, a, t⟩ := x
  have hor : (n < 0) ∨ (0 ≤ n ∧ 8 ≤ n) ∨ (0 ≤ n ∧ ¬ (8 ≤ n) ∧ a < 0) ∨ (0 ≤ n ∧ ¬ (8 ≤ n) ∧ ¬ (a < 0) ∧ 1099511627776 < a) ∨ (0 ≤ n ∧ ¬ (8 ≤ n) ∧ ¬ (a < 0) ∧ ¬ (1099511627776 < a) ∧ t < 0) ∨ (0 ≤ n ∧ ¬ (8 ≤ n) ∧ ¬ (a < 0) ∧ ¬ (1099511627776 < a) ∧ ¬ (t < 0) ∧ 255 < t) := by
    unfold Al.ok at hx
    simp only at hx
    omega
  clear hx
  rcases hor with h | ⟨h0, h1⟩ | ⟨h0, h1, h2⟩ | ⟨h0, h1, h2, h3⟩ | ⟨h0, h1, h2, h3, h4⟩ | ⟨h0, h1, h2, h3, h4, h5⟩
  all_goals
    go_enter Try.func17, Try.ntmps17
    go_wp2
    go_ret
    exact ⟨rfl, K1.out, K2.out⟩

set_option maxRecDepth 100000 in
set_option maxHeartbeats 8000000 in
theorem rset_any (B : Nat) (l : List Al) (x : Al) (w : World) (h : Rf w B l) (hG : Good l) :
    Calls Try.prog 17 #[.pointer (some ⟨B, 0, none⟩), x.val] w fun e w' => e = .returned (.int .i64 (setE l x)) ∧ Rf w' B (setL l x) ∧ w.grownBy w' (some B) := by
  by_cases hx : x.ok
  · have hle := hG.le
    have hse := setE_wo hG hx
    have hwl : (wo l x.n x.t).length ≤ 64 := Nat.le_trans (List.length_filter_le _ _) hle
    have hb1 : Below w.heap.size w (w.alloc (.cells x.cells 40)) := (Below.refl _ _).alloc (Nat.le_refl _) _
    have R0 := Lib.hid h
    have R1 := Lib.hid (h.below hb1)
    have B1 := Lib.hid hb1
    have X1 := Lib.hid (AB.fresh 40 w x)
    have HW := Lib.hid (fun w (h : Rf w B l) => without_any B l x.n x.t w h (by omega))
    obtain ⟨⟨n0, n1⟩, ⟨a0, a1⟩, ⟨t0, t1⟩⟩ := hx
    have q0 : ¬ (x.n < 0) := by omega
    have q1 : ¬ (8 ≤ x.n) := by omega
    have q2 : ¬ (x.a < 0) := by omega
    have q3 : ¬ (1099511627776 < x.a) := by omega
    have q4 : ¬ (x.t < 0) := by omega
    have q5 : ¬ (255 < x.t) := by omega
    obtain ⟨L, hL⟩ : ∃ L, wo l x.n x.t = L := ⟨_, rfl⟩
    rw [hL] at HW hse hwl
    clear h hb1 n0 n1 a0 a1 t0 t1
    by_cases hf : 64 ≤ L.length
    · rw [if_pos hf] at hse
      have e2 : setL l x = l := by unfold setL; rw [hse]; rfl
      rw [hse, e2]
      have hfI : (64 : Int) ≤ (L.length : Int) := by omega
      clear hse e2 hL
      obtain ⟨d0, d1, d2⟩ := X1.out.all
      go_enter Try.func17, Try.ntmps17
      go_wp2_with fail
      go_at_call 29
      refine (HW.out _ R1.out).mono ?_
      rintro e w2 ⟨v, rfl, k1, k2⟩
      have B2 := Lib.hid (B1.out.trans (k2.mono B1.out.size))
      have K1 := Lib.hid (R0.out.below B2.out)
      have K2 := Lib.hid (grown_of_below B2.out (some B))
      have hsh : ∃ A cap, v = .slice A L.length cap := by
        rcases k1.form with ⟨rfl, h9⟩ | ⟨g, cap, rfl, -⟩
        · rw [h9] at hf; simp at hf
        · exact ⟨_, cap, rfl⟩
      obtain ⟨A, cap, rfl⟩ := hsh
      clear k1 k2 d0 d1 d2 X1 R1 B1 R0 HW
      go_wp2
      go_ret
      exact ⟨rfl, K1.out, K2.out⟩
    · rw [if_neg hf] at hse
      have e2 : setL l x = ins x L := by unfold setL; rw [hse, hL]; rfl
      rw [hse, e2]
      have hfI : ¬ ((64 : Int) ≤ (L.length : Int)) := by omega
      obtain ⟨R, hR⟩ : ∃ R, ins x L = R := ⟨_, rfl⟩
      have HR := Lib.hid hR
      rw [hR]
      clear hse e2 hL hR hf
      obtain ⟨i0, hi0, hz0, hz1, hz2⟩ := info_parts infoR
      obtain ⟨d0, d1, d2⟩ := X1.out.all
      go_enter Try.func17, Try.ntmps17
      go_wp2_with fail
      go_at_call 29
      refine (HW.out _ R1.out).mono ?_
      rintro e w2 ⟨v, rfl, k1, k2⟩
      have B2 := Lib.hid (B1.out.trans (k2.mono B1.out.size))
      have X2 := Lib.hid (X1.out.below k2)
      have OL := Lib.hid k1
      have hsh : ∃ A cap, v = .slice A L.length cap := by
        rcases k1.form with ⟨rfl, h9⟩ | ⟨g, cap, rfl, -⟩
        · exact ⟨none, 0, by rw [h9]; rfl⟩
        · exact ⟨_, cap, rfl⟩
      obtain ⟨A, cap, rfl⟩ := hsh
      have hBl := R0.out.lt
      have hz0' : w.heap.size < w2.heap.size := X2.out.lt
      clear k1 k2 d0 d1 d2 X1 R1 B1 HW
      have O1 := Lib.hid (Owns.lit (e := 40) (w := w2) (Nat.le_refl w2.heap.size))
      have hb1 : Below w2.heap.size w2 (w2.alloc (.cells #[] 40)) := (Below.refl _ _).alloc (Nat.le_refl _) _
      have B3 := Lib.hid hb1
      clear hb1
      go_wp2
      go_loopw [6, 7, 8] (fun u d iv wr => ∃ k : Nat, k ≤ L.length ∧ iv = .int .i64 k ∧ d = .bool (past x (L.take k)) ∧ Owns 40 wr w2.heap.size u (laid x (L.take k)) ∧ Below w2.heap.size w2 wr) (fun _ _ iv _ => L.length - (intOf iv).toNat)
      case atStart => exact ⟨0, Nat.zero_le _, rfl, rfl, O1.out, B3.out⟩
      case round =>
        obtain ⟨k, hk, rfl, rfl, hown, hB⟩ := hrel
        have O2 := Lib.hid hown
        have B4 := Lib.hid hB
        have hzs : w2.heap.size ≤ wr.heap.size := hB.size
        clear hown hB
        by_cases hlt : k < L.length
        · obtain ⟨m, hm⟩ : ∃ m, L[k]? = some m := ⟨_, List.getElem?_eq_getElem hlt⟩
          have hlI : (k : Int) < (L.length : Int) := by omega
          have hkI : (0 : Int) ≤ (k : Int) := by omega
          rcases OL.out.form with ⟨-, rfl⟩ | ⟨g, cap', e1, hbg, hgl, -, -, hat⟩
          · simp at hlt
          cases e1
          have HX := Lib.hid (fun W (hb : Below w2.heap.size w2 W) => show XC W w.heap.size g (k * 3) x m from
            ⟨(hb.cell (p := ⟨w.heap.size, 0, none⟩) hz0').trans X2.out.all.1, (hb.cell (p := ⟨w.heap.size, 1, none⟩) hz0').trans X2.out.all.2.1, (hb.cell (p := ⟨w.heap.size, 2, none⟩) hz0').trans X2.out.all.2.2, ((hat k m hm).below' hb hgl).c0, ((hat k m hm).below' hb hgl).c1, ((hat k m hm).below' hb hgl).c2⟩)
          have hll := laid_length x (L.take k)
          rw [List.length_take] at hll
          have htk : L.take (k + 1) = L.take k ++ [m] := by rw [List.take_add_one, hm]; rfl
          clear hat
          obtain ⟨T, hT⟩ : ∃ T, L.take k = T := ⟨_, rfl⟩
          rw [hT] at htk hll O2 ⊢
          have hps := past_snoc x m T
          have hbd : Below wr.heap.size wr wr.drew := (Below.refl _ _).drew
          have Od := Lib.hid (O2.out.below hbd)
          have Bd := Lib.hid (B4.out.drew)
          clear hbd O2
          cases hp : past x T
          · rw [hp] at hps
            by_cases hq : x.lt m
            · have E := Lib.hid (laid_snoc_now x m T hp hq)
              have EP := Lib.hid (show past x (T ++ [m]) = true from by rw [hps]; simp [hq])
              have HK := Lib.hid (fun w => (decide_eq_true hq) ▸ ahead_any x m w)
              have HT := Lib.hid htk
              clear hps hp hT htk hq
              go_wp2_with fail
              go_region_held3 (fun w' => w'.cell? ⟨w.heap.size, 0, none⟩ = some (.int .i64 x.n) ∧ w'.cell? ⟨w.heap.size, 1, none⟩ = some (.int .i64 x.a) ∧ w'.cell? ⟨w.heap.size, 2, none⟩ = some (.int .i64 x.t) ∧ w'.cell? ⟨g, k * 3, none⟩ = some (.int .i64 m.n) ∧ w'.cell? ⟨g, k * 3 + 1, none⟩ = some (.int .i64 m.a) ∧ w'.cell? ⟨g, k * 3 + 2, none⟩ = some (.int .i64 m.t))
                (first | exact HX.out _ Bd.out | exact HX.out _ Be.out | fail)
                (first | (go_at_call 30; refine (HK.out _).mono ?_; rintro e we ⟨rfl, k1⟩; have Oe := Lib.hid (Od.out.below k1); have Be := Lib.hid (Bd.out.trans (k1.mono Bd.out.size)); clear k1) | fail)
              have hze : w2.heap.size ≤ we.heap.size := Be.out.size
              obtain ⟨d0, d1, d2, c0, c1, c2⟩ := HX.out _ Be.out
              go_wp2_with (first | (at_builtin; refine wpList_append_lies _ rfl (.tmp 63) (.tmp 65) 26 rfl w2.heap.size 40 i0 _ 3 24 Try.underlying26 hi0 hz0 hz1 hz2 rfl (by decide) _ _ _ rfl (Oe.out.below (below_al we x)) ⟨we.heap.size, 0, none⟩ 1 1 (flat [x]) rfl (by simp [flat]) (news1 we x 40) (flat_oneCell _) (by decide) (by (try simp only [List.length_append, List.length_singleton]); unfold maxLen; omega) (by (try simp only [List.length_append, List.length_singleton]); omega) (by simp; omega) (we.heap.size + 1) (by simp) ?_; intro g5 cap5 w5 hown hgrow _ _; (have P5 := Lib.hid (Owns.snoc hown)); (have Q5 := Lib.hid (below_grown (Be.out.trans ((below_al we x).mono hze)) hgrow (by simp; omega) (fun k hk => (Oe.out.lt hk).1))); (have hz5 : w2.heap.size ≤ w5.heap.size := Q5.out.size);(obtain ⟨d0, d1, d2, c0, c1, c2⟩ := HX.out _ Q5.out); clear hown hgrow) | (at_builtin; refine wpList_append_lies _ rfl (.tmp 67) (.tmp 72) 26 rfl w2.heap.size 40 i0 _ 3 24 Try.underlying26 hi0 hz0 hz1 hz2 rfl (by decide) _ _ _ rfl (P5.out.below (below_al w5 m)) ⟨w5.heap.size, 0, none⟩ 1 1 (flat [m]) rfl (by simp [flat]) (news1 w5 m 40) (flat_oneCell _) (by decide) (by (try simp only [List.length_append, List.length_singleton]); unfold maxLen; omega) (by (try simp only [List.length_append, List.length_singleton]); omega) (by simp; omega) (w5.heap.size + 1) (by simp) ?_; intro g6 cap6 w6 hown hgrow _ _; (have P6 := Lib.hid (Owns.snoc hown)); (have Q6 := Lib.hid (below_grown (Q5.out.trans ((below_al w5 m).mono hz5)) hgrow (by simp; omega) (fun k hk => (P5.out.lt hk).1))); (have hz6 : w2.heap.size ≤ w6.heap.size := Q6.out.size); clear hown hgrow))
              go_roundw
              case rel => exact ⟨k + 1, by omega, by go_num, by rw [HT.out, EP.out], by rw [HT.out, E.out]; simpa using P6.out, Q6.out⟩
              case measure => simp [intOf]; omega
            · have E := Lib.hid (laid_snoc_not x m T hp hq)
              have EP := Lib.hid (show past x (T ++ [m]) = false from by rw [hps]; simp [hq])
              have HK := Lib.hid (fun w => (decide_eq_false hq) ▸ ahead_any x m w)
              have HT := Lib.hid htk
              clear hps hp hT htk hq
              go_wp2_with fail
              go_region_held3 (fun w' => w'.cell? ⟨w.heap.size, 0, none⟩ = some (.int .i64 x.n) ∧ w'.cell? ⟨w.heap.size, 1, none⟩ = some (.int .i64 x.a) ∧ w'.cell? ⟨w.heap.size, 2, none⟩ = some (.int .i64 x.t) ∧ w'.cell? ⟨g, k * 3, none⟩ = some (.int .i64 m.n) ∧ w'.cell? ⟨g, k * 3 + 1, none⟩ = some (.int .i64 m.a) ∧ w'.cell? ⟨g, k * 3 + 2, none⟩ = some (.int .i64 m.t))
                (first | exact HX.out _ Bd.out | exact HX.out _ Be.out | fail)
                (first | (go_at_call 30; refine (HK.out _).mono ?_; rintro e we ⟨rfl, k1⟩; have Oe := Lib.hid (Od.out.below k1); have Be := Lib.hid (Bd.out.trans (k1.mono Bd.out.size)); clear k1) | fail)
              have hze : w2.heap.size ≤ we.heap.size := Be.out.size
              obtain ⟨d0, d1, d2, c0, c1, c2⟩ := HX.out _ Be.out
              go_wp2_with (at_builtin; refine wpList_append_lies _ rfl (.tmp 67) (.tmp 72) 26 rfl w2.heap.size 40 i0 _ 3 24 Try.underlying26 hi0 hz0 hz1 hz2 rfl (by decide) _ _ _ rfl (Oe.out.below (below_al we m)) ⟨we.heap.size, 0, none⟩ 1 1 (flat [m]) rfl (by simp [flat]) (news1 we m 40) (flat_oneCell _) (by decide) (by (try simp only [List.length_append, List.length_singleton]); unfold maxLen; omega) (by (try simp only [List.length_append, List.length_singleton]); omega) (by simp; omega) (we.heap.size + 1) (by simp) ?_; intro g6 cap6 w6 hown hgrow _ _; (have P6 := Lib.hid (Owns.snoc hown)); (have Q6 := Lib.hid (below_grown (Be.out.trans ((below_al we m).mono hze)) hgrow (by simp; omega) (fun k hk => (Oe.out.lt hk).1))); (have hz6 : w2.heap.size ≤ w6.heap.size := Q6.out.size); clear hown hgrow)
              go_roundw
              case rel => exact ⟨k + 1, by omega, by go_num, by rw [HT.out, EP.out], by rw [HT.out, E.out]; simpa using P6.out, Q6.out⟩
              case measure => simp [intOf]; omega
          · rw [hp] at hps
            have E := Lib.hid (laid_snoc_on x m T hp)
            have EP := Lib.hid (show past x (T ++ [m]) = true from by rw [hps]; rfl)
            have HT := Lib.hid htk
            clear hps hp hT htk
            obtain ⟨d0, d1, d2, c0, c1, c2⟩ := HX.out _ B4.out
            go_wp2_with fail
            go_region
            have hze : w2.heap.size ≤ wr.drew.heap.size := Bd.out.size
            go_wp2_with (at_builtin; refine wpList_append_lies _ rfl (.tmp 67) (.tmp 72) 26 rfl w2.heap.size 40 i0 _ 3 24 Try.underlying26 hi0 hz0 hz1 hz2 rfl (by decide) _ _ _ rfl (Od.out.below (below_al wr.drew m)) ⟨wr.drew.heap.size, 0, none⟩ 1 1 (flat [m]) rfl (by simp [flat]) (news1 wr.drew m 40) (flat_oneCell _) (by decide) (by (try simp only [List.length_append, List.length_singleton]); unfold maxLen; omega) (by (try simp only [List.length_append, List.length_singleton]); omega) (by simp; omega) (wr.drew.heap.size + 1) (by simp) ?_; intro g6 cap6 w6 hown hgrow _ _; (have P6 := Lib.hid (Owns.snoc hown)); (have Q6 := Lib.hid (below_grown (Bd.out.trans ((below_al wr.drew m).mono hze)) hgrow (by simp; omega) (fun k hk => (Od.out.lt hk).1))); (have hz6 : w2.heap.size ≤ w6.heap.size := Q6.out.size); clear hown hgrow)
            go_roundw
            case rel => exact ⟨k + 1, by omega, by go_num, by rw [HT.out, EP.out], by rw [HT.out, E.out]; simpa using P6.out, Q6.out⟩
            case measure => simp [intOf]; omega
        · have hlI : ¬ ((k : Int) < (L.length : Int)) := by omega
          obtain rfl : k = L.length := by omega
          rw [List.take_length] at O2 ⊢
          have hzw : w.heap.size ≤ w2.heap.size := Nat.le_of_lt hz0'
          cases hp : past x L
          · obtain ⟨e1, e2⟩ := laid_end_not x L hp
            have E := Lib.hid (show R = L ++ [x] from HR.out.symm.trans e2)
            rw [e1] at O2
            clear hp e1 e2
            obtain ⟨d0, d1, d2⟩ := (X2.out.below (B4.out)).all
            go_wp2_with (at_builtin; refine wpList_append_lies _ rfl (.tmp 76) (.tmp 78) 26 rfl w2.heap.size 40 i0 _ 3 24 Try.underlying26 hi0 hz0 hz1 hz2 rfl (by decide) _ _ _ rfl (O2.out.below (below_al wr x)) ⟨wr.heap.size, 0, none⟩ 1 1 (flat [x]) rfl (by simp [flat]) (news1 wr x 40) (flat_oneCell _) (by decide) (by (try simp only [List.length_append, List.length_singleton]); unfold maxLen; omega) (by (try simp only [List.length_append, List.length_singleton]); omega) (by simp; omega) (wr.heap.size + 1) (by simp) ?_; intro g6 cap6 w6 hown hgrow _ _; (have P6 := Lib.hid (Owns.snoc hown)); (have Q6 := Lib.hid (below_grown (B4.out.trans ((below_al wr x).mono hzs)) hgrow (by simp; omega) (fun k hk => (O2.out.lt hk).1)));(have B6 := Lib.hid (B2.out.trans (Q6.out.mono hzw)));  (obtain ⟨s6, hs6, hf6, -, -⟩ := (R0.out.below B6.out).open'); clear hown hgrow)
            go_ret
            have := R0.out.anew B6.out P6.out
            exact ⟨rfl, by rw [E.out]; exact this.1, this.2⟩
          · have E := Lib.hid ((laid_end_hit x L hp).trans HR.out)
            rw [E.out] at O2
            have B6 := Lib.hid (B2.out.trans (B4.out.mono hzw))
            obtain ⟨s6, hs6, hf6, -, -⟩ := (R0.out.below B6.out).open'
            obtain ⟨A6, c6, e6⟩ := O2.out.shape
            subst e6
            clear hp
            go_wp2
            go_ret
            have := R0.out.anew B6.out O2.out
            exact ⟨rfl, this.1, this.2⟩
  · have e1 : setE l x = 1 := by unfold setE; rw [if_pos hx]
    have e2 : setL l x = l := by unfold setL; rw [e1]; rfl
    rw [e1, e2]
    exact rset_arg B l x w h hx
end Go.Proofs.Ytcanagecdniiiaa
