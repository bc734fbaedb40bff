/-
  does (weirkeeplaw11): a call at both groups, which answer alike.
-/
import Derived.Test.YtkcbmkedhipgeaaGreatDoorLive11
import Derived.Test.YtkcbmkedhipgeaaGreatDoorShown11
import Derived.BigQuiet
namespace Go.Proofs.YtkcbmkedhipgeaaGreatDoor
open Go.RowKit Go.ChangeMaps

/-- What a call leaves. -/
def doS (S : Gp) (o : Stp) : Gp := if o.kind = 0 then proS S o.i o.x o.L else if o.kind = 1 then leaS S o.i o.j else if o.kind = 2 then setS S o.i false else if o.kind = 3 then setS S o.i true else S
theorem LV.does {S : Gp} {m : Nat} (h : LV S m) (o : Stp) : LV (doS S o) (m + 1) := by
  unfold doS
  split
  · exact h.pro _ _ _
  · split
    · exact (h.lea _ _).mono (by omega)
    · split
      · exact (h.sets _ _).mono (by omega)
      · split
        · exact (h.sets _ _).mono (by omega)
        · exact h.mono (by omega)
theorem pro_n {S : Gp} {m : Nat} (h : LV S m) (i : Int) (x : ByteArray) (L : Nat) : (proS S i x L).n = S.n := (h.inv.pro i x L).2
theorem lea_n {S : Gp} {m : Nat} (h : LV S m) (i j : Int) : (leaS S i j).n = S.n := (h.inv.lea i j).2
theorem set_n {S : Gp} (i : Int) (u : Bool) : (setS S i u).n = S.n := by unfold setS; split <;> rfl
theorem do_n {S : Gp} {m : Nat} (h : LV S m) (o : Stp) : (doS S o).n = S.n := by
  unfold doS
  split
  · exact pro_n h _ _ _
  · split
    · exact lea_n h _ _
    · split
      · exact set_n _ _
      · split
        · exact set_n _ _
        · rfl
theorem do_all {S : Gp} (o : Stp) : ∀ j v, (j, v) ∈ S.all → (j, v) ∈ (doS S o).all := fun j v hj => by
  unfold doS
  split
  · exact pro_all _ _ _ j v hj
  · split
    · unfold leaS; split <;> exact hj
    · split
      · unfold setS; split <;> exact hj
      · split
        · unfold setS; split <;> exact hj
        · exact hj
/-! ### each call at either side, as one sentence -/
section
variable {w0 w : World} {g r : Nat} {S T : Gp} {P : Pl} {Q : Ql}
theorem bb_pro (h : BB w0 w g r S T P Q) {m : Nat} (hL : LV S m) (i : Int) (x : ByteArray) (L : Nat) (ho : L < 18446744073709551616) :
    Calls Tryz.prog 21 #[.pointer (some ⟨g, 0, none⟩), .int .i64 i, .string x, .int .u64 (L : Int)] w fun e w' => ∃ P', e = .returned (.tuple #[.int .i64 (proE S i x L).1, .string (proE S i x L).2.1, .int .i64 (proE S i x L).2.2]) ∧ BB w0 w' g r (proS S i x L) T P' Q ∧ BX S.n P P' Q Q w w' := by
  refine (propose_any h.pg hL.inv i x L ho).mono ?_
  rintro e w' ⟨P', rfl, hp, ht⟩
  obtain ⟨h1, h2⟩ := h.prog hp ht (pro_n hL i x L)
  exact ⟨P', rfl, h1, h2⟩
theorem bb_rpro (h : BB w0 w g r S T P Q) {m : Nat} (hL : LV T m) (hm : m ≤ 10000) (i : Int) (x : ByteArray) (L : Nat) :
    Calls Tryz.prog 25 #[.pointer (some ⟨r, 0, none⟩), .int .i64 i, .string x, .int .u64 (L : Int)] w fun e w' => ∃ Q', e = .returned (.tuple #[.int .i64 (proE T i x L).1, .string (proE T i x L).2.1, .int .i64 (proE T i x L).2.2]) ∧ BB w0 w' g r S (proS T i x L) P Q' ∧ BX S.n P P Q Q' w w' := by
  refine (rpro_any h.rg hL.inv (by have := hL.all; omega) i x L).mono ?_
  rintro e w' ⟨Q', rfl, hp, ht⟩
  obtain ⟨h1, h2⟩ := h.ref hp ht (pro_n hL i x L)
  exact ⟨Q', rfl, h1, h2⟩
theorem bb_lea (h : BB w0 w g r S T P Q) {m : Nat} (hL : LV S m) (hm : m ≤ 4096) (i j : Int) :
    Calls Tryz.prog 22 #[.pointer (some ⟨g, 0, none⟩), .int .i64 i, .int .i64 j] w fun e w' => ∃ P', e = .returned (.tuple #[.int .i64 (leaE S i j).1, .int .i64 (leaE S i j).2]) ∧ BB w0 w' g r (leaS S i j) T P' Q ∧ BX S.n P P' Q Q w w' := by
  refine (learn_any h.pg hL.inv (fun k hk => by have := hL.log k hk; omega) i j).mono ?_
  rintro e w' ⟨P', rfl, hp, ht⟩
  obtain ⟨h1, h2⟩ := h.prog hp ht (lea_n hL i j)
  exact ⟨P', rfl, h1, h2⟩
theorem bb_rlea (h : BB w0 w g r S T P Q) {m : Nat} (hL : LV T m) (hm : m ≤ 4096) (i j : Int) :
    Calls Tryz.prog 26 #[.pointer (some ⟨r, 0, none⟩), .int .i64 i, .int .i64 j] w fun e w' => ∃ Q', e = .returned (.tuple #[.int .i64 (leaE T i j).1, .int .i64 (leaE T i j).2]) ∧ BB w0 w' g r S (leaS T i j) P Q' ∧ BX S.n P P Q Q' w w' := by
  refine (rlearn_any h.rg (fun k hk => by have := hL.log k hk; omega) i j).mono ?_
  rintro e w' ⟨Q', rfl, hp, ht⟩
  obtain ⟨h1, h2⟩ := h.ref hp ht (lea_n hL i j)
  exact ⟨Q', rfl, h1, h2⟩
theorem bb_down (h : BB w0 w g r S T P Q) (hT : Tab w0) (i : Int) :
    Calls Tryz.prog 23 #[.pointer (some ⟨g, 0, none⟩), .int .i64 i] w fun e w' => ∃ P', e = .returned (.int .i64 (setE S i)) ∧ BB w0 w' g r (setS S i false) T P' Q ∧ BX S.n P P' Q Q w w' := by
  refine (down_any h.pg (hT.below h.un) i).mono ?_
  rintro e w' ⟨P', rfl, hp, ht⟩
  obtain ⟨h1, h2⟩ := h.prog hp ht (set_n i false)
  exact ⟨P', rfl, h1, h2⟩
theorem bb_up (h : BB w0 w g r S T P Q) (hT : Tab w0) (hE : ErrType w0) (i : Int) :
    Calls Tryz.prog 20 #[.pointer (some ⟨g, 0, none⟩), .int .i64 i] w fun e w' => ∃ P', e = .returned (.int .i64 (setE S i)) ∧ BB w0 w' g r (setS S i true) T P' Q ∧ BX S.n P P' Q Q w w' := by
  refine (up_any h.pg (hT.below h.un) (hE.below h.un) i).mono ?_
  rintro e w' ⟨P', rfl, hp, ht⟩
  obtain ⟨h1, h2⟩ := h.prog hp ht (set_n i true)
  exact ⟨P', rfl, h1, h2⟩
theorem bb_rset (h : BB w0 w g r S T P Q) (i : Int) (u : Bool) :
    Calls Tryz.prog 27 #[.pointer (some ⟨r, 0, none⟩), .int .i64 i, .bool u] w fun e w' => e = .returned (.int .i64 (setE T i)) ∧ BB w0 w' g r S (setS T i u) P Q ∧ BX S.n P P Q Q w w' := by
  refine (rset_any h.rg i u).mono ?_
  rintro e w' ⟨rfl, hp, ht⟩
  obtain ⟨h1, h2⟩ := h.ref hp ht (set_n i u)
  exact ⟨rfl, h1, h2⟩
theorem BX.step {P' : Pl} {Q' : Ql} {w' : World} (hx : BX S.n P P' Q Q' w w') (h : BB w0 w g r S T P Q) {b : Nat} {o : Stp} (ha : AS w b o) : AS w' b o := hx.other h.pg rfl ha (by decide)
end
set_option maxRecDepth 100000 in
set_option maxHeartbeats 4000000 in
theorem does_any {w0 w : World} {g r : Nat} {S : Gp} {P : Pl} {Q : Ql} {m : Nat} (h : BB w0 w g r S S P Q) (hL : LV S m) (hm : m ≤ 4000) (hT : Tab w0) (hE : ErrType w0) (o : Stp) (ho : o.L < 18446744073709551616) :
    Calls Tryz.prog 14 #[.pointer (some ⟨g, 0, none⟩), .pointer (some ⟨r, 0, none⟩), .agg #[.int .i64 o.kind, .int .i64 o.i, .int .i64 o.j, .string o.x, .int .u64 (o.L : Int)]] w fun e w' => ∃ P' Q', e = .returned (.bool true) ∧ BB w0 w' g r (doS S o) (doS S o) P' Q' ∧ BX S.n P P' Q Q' w w' := by
  obtain ⟨kk, i, j, x, L⟩ := o
  have hb : Below w.heap.size w (w.alloc (.cells #[.int .i64 kk, .int .i64 i, .int .i64 j, .string x, .int .u64 (L : Int)] 37)) := (Below.refl _ _).alloc (Nat.le_refl _) _
  obtain ⟨h1, x1⟩ := h.below hb
  have ha : AS (w.alloc (.cells #[.int .i64 kk, .int .i64 i, .int .i64 j, .string x, .int .u64 (L : Int)] 37)) w.heap.size ⟨kk, i, j, x, L⟩ := AS.fresh w ⟨kk, i, j, x, L⟩
  have HL := Lib.hid hL
  have HT := Lib.hid hT
  have HE := Lib.hid hE
  have HA := Lib.hid ha
  have H1 := Lib.hid h1
  have X1 := Lib.hid x1
  clear h hb h1 x1 hL hT hE
  obtain ⟨p0, p1, p2, p3, p4⟩ := ha.all
  have ho' : L < 18446744073709551616 := ho
  clear ho
  clear ha
  by_cases z0 : kk = 0
  · subst z0
    rw [show doS S ⟨0, i, j, x, L⟩ = proS S i x L from rfl]
    have HP := Lib.hid (bb_pro H1.out HL.out i x L ho')
    go_enter Tryz.func14, Tryz.ntmps14
    go_wp2_with fail
    go_at_call 21
    refine HP.out.mono ?_
    rintro e w2 ⟨P', rfl, h2, x2⟩
    obtain ⟨q0, q1, q2, q3, q4⟩ := (x2.step H1.out HA.out).all
    have X2 := Lib.hid (X1.out.trans x2)
    have HR := Lib.hid (bb_rpro h2 HL.out (by omega) i x L)
    have hn2 := pro_n HL.out i x L
    generalize proE S i x L = q at HR ⊢
    obtain ⟨qa, qs, qe⟩ := q
    clear HP H1 X1 HA p0 p1 p2 p3 p4 h2 x2
    go_wp2_with fail
    go_at_call 25
    refine HR.out.mono ?_
    rintro e w3 ⟨Q', rfl, h3, x3⟩
    rw [hn2] at x3
    clear HR
    have H3 := Lib.hid h3
    have X3 := Lib.hid (X2.out.trans x3)
    clear h3 x3 q0 q1 q2 q3 q4
    go_wp2
    go_ret
    exact ⟨P', Q', rfl, H3.out, X3.out⟩
  by_cases z1 : kk = 1
  · subst z1
    rw [show doS S ⟨1, i, j, x, L⟩ = leaS S i j from rfl]
    have HP := Lib.hid (bb_lea H1.out HL.out (by omega) i j)
    go_enter Tryz.func14, Tryz.ntmps14
    go_wp2_with fail
    go_at_call 22
    refine HP.out.mono ?_
    rintro e w2 ⟨P', rfl, h2, x2⟩
    obtain ⟨q0, q1, q2, q3, q4⟩ := (x2.step H1.out HA.out).all
    have X2 := Lib.hid (X1.out.trans x2)
    have HR := Lib.hid (bb_rlea h2 HL.out (by omega) i j)
    have hn2 := lea_n HL.out i j
    generalize leaE S i j = q at HR ⊢
    obtain ⟨qa, qe⟩ := q
    clear HP H1 X1 HA p0 p1 p2 p3 p4 h2 x2
    go_wp2_with fail
    go_at_call 26
    refine HR.out.mono ?_
    rintro e w3 ⟨Q', rfl, h3, x3⟩
    rw [hn2] at x3
    clear HR
    have H3 := Lib.hid h3
    have X3 := Lib.hid (X2.out.trans x3)
    clear h3 x3 q0 q1 q2 q3 q4
    go_wp2
    go_ret
    exact ⟨P', Q', rfl, H3.out, X3.out⟩
  by_cases z2 : kk = 2
  · subst z2
    rw [show doS S ⟨2, i, j, x, L⟩ = setS S i false from rfl]
    go_enter Tryz.func14, Tryz.ntmps14
    go_wp2_with fail
    generalize w.alloc (.cells #[.int .i64 2, .int .i64 i, .int .i64 j, .string x, .int .u64 (L : Int)] 37) = w1 at HA H1 X1 p0 p1 p2 p3 p4 ⊢
    have bd : Below w1.heap.size w1 w1.drew := (Below.refl _ _).drew
    obtain ⟨h2, x2⟩ := H1.out.below bd
    have HAd := Lib.hid (HA.out.below bd)
    have X2 := Lib.hid (X1.out.trans x2)
    have H2 := Lib.hid h2
    have HP := Lib.hid (bb_down h2 HT.out i)
    obtain ⟨q0, q1, q2, q3, q4⟩ := HAd.out.all
    clear H1 X1 HA p0 p1 p2 p3 p4 h2 x2 bd
    go_region_held3 (fun w' => w'.cell? ⟨w.heap.size, 1, none⟩ = some (.int .i64 i))
      (first | exact q1 | exact j1 | exact i1 | fail)
      (first
        | (go_at_call 23; (with_reducible refine HP.out.mono ?_); rintro e w5 ⟨P', rfl, h5, x5⟩; have H5 := Lib.hid h5; have X5 := Lib.hid (X2.out.trans x5); have HR := Lib.hid (bb_rset h5 i false); have HA5 := Lib.hid (x5.step H2.out HAd.out); obtain ⟨-, j1, -, -, -⟩ := HA5.out.all; clear h5 x5)
        | (go_at_call 27; (with_reducible refine HR.out.mono ?_); rintro e w6 ⟨rfl, h6, x6⟩; have H6 := Lib.hid h6; have X6 := Lib.hid (X5.out.trans (by rw [set_n] at x6; exact x6)); obtain ⟨-, i1, -, -, -⟩ := (x6.step H5.out HA5.out).all; clear h6 x6)
        | fail)
    go_wp2
    go_ret
    exact ⟨P', Q, rfl, H6.out, X6.out⟩
  by_cases z3 : kk = 3
  · subst z3
    rw [show doS S ⟨3, i, j, x, L⟩ = setS S i true from rfl]
    go_enter Tryz.func14, Tryz.ntmps14
    go_wp2_with fail
    generalize w.alloc (.cells #[.int .i64 3, .int .i64 i, .int .i64 j, .string x, .int .u64 (L : Int)] 37) = w1 at HA H1 X1 p0 p1 p2 p3 p4 ⊢
    have bd : Below w1.heap.size w1 w1.drew := (Below.refl _ _).drew
    obtain ⟨h2, x2⟩ := H1.out.below bd
    have HAd := Lib.hid (HA.out.below bd)
    have X2 := Lib.hid (X1.out.trans x2)
    have H2 := Lib.hid h2
    have HP := Lib.hid (bb_up h2 HT.out HE.out i)
    obtain ⟨q0, q1, q2, q3, q4⟩ := HAd.out.all
    clear H1 X1 HA p0 p1 p2 p3 p4 h2 x2 bd
    go_region_held3 (fun w' => w'.cell? ⟨w.heap.size, 1, none⟩ = some (.int .i64 i))
      (first | exact q1 | exact j1 | exact i1 | fail)
      (first
        | (go_at_call 20; (with_reducible refine HP.out.mono ?_); rintro e w5 ⟨P', rfl, h5, x5⟩; have H5 := Lib.hid h5; have X5 := Lib.hid (X2.out.trans x5); have HR := Lib.hid (bb_rset h5 i true); have HA5 := Lib.hid (x5.step H2.out HAd.out); obtain ⟨-, j1, -, -, -⟩ := HA5.out.all; clear h5 x5)
        | (go_at_call 27; (with_reducible refine HR.out.mono ?_); rintro e w6 ⟨rfl, h6, x6⟩; have H6 := Lib.hid h6; have X6 := Lib.hid (X5.out.trans (by rw [set_n] at x6; exact x6)); obtain ⟨-, i1, -, -, -⟩ := (x6.step H5.out HA5.out).all; clear h6 x6)
        | fail)
    go_wp2
    go_ret
    exact ⟨P', Q, rfl, H6.out, X6.out⟩
  · have hs : doS S ⟨kk, i, j, x, L⟩ = S := by unfold doS; rw [if_neg z0, if_neg z1, if_neg z2, if_neg z3]
    rw [hs]
    go_enter Tryz.func14, Tryz.ntmps14
    go_wp2
    go_ret
    first
      | exact ⟨rfl, P, Q, H1.out, X1.out⟩
      | exact ⟨P, Q, rfl, H1.out, X1.out⟩
end Go.Proofs.YtkcbmkedhipgeaaGreatDoor
