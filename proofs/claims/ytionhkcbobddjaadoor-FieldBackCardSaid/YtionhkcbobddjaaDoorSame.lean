/-
  Same of the same errors; alike of an error and a fault with the same errors: true.
-/
import Derived.Test.YtionhkcbobddjaaDoorRef
namespace Go.Proofs.YtionhkcbobddjaaDoor
open Go.RowKit Go.Extern.Stop Go.Stop Go.Extern Go.PlainAid Go.Lib

theorem RF.of_owned {w : World} {base : Nat} {e : TypeId} {s : Value} {es : List Int} (h : w.ownsRow base e 1 s es.length (es.map (Value.int .i64))) : ∃ A c, s = .slice A es.length c ∧ RF w A es.length c es := by
  have h' := h
  obtain ⟨h1, h2 | ⟨g, cap, cur, hv, hg, hh, hnc, _⟩⟩ := h
  · obtain ⟨rfl, h0⟩ := h2
    have : es = [] := List.eq_nil_of_length_eq_zero h0
    subst this
    exact ⟨none, 0, rfl, RF.none_⟩
  · refine ⟨_, cap, hv, rfl, hnc, .inr ⟨g, rfl, fun j x hx => ?_⟩⟩
    have := h'.cells (g := g) (by rw [hv]; rfl) j (.int .i64 x) (by rw [List.getElem?_map, hx]; rfl)
    have e : (⟨g, 0, none⟩ : Addr).add j = ⟨g, j, none⟩ := by
      by_cases hj : j = 0 <;> simp [Addr.add, hj]
    rw [e] at this; exact this

set_option maxRecDepth 100000 in
theorem same_yes (A B : Option Addr) (n c d : Nat) (es : List Int) (w : World) (hA : RF w A n c es) (hB : RF w B n d es) (hn : n ≤ 1000) :
    Calls Tryd.prog 29 #[.slice A n c, .slice B n d] w fun e w' => e = .returned (.bool true) ∧ Below w.heap.size w w' := by
  obtain ⟨a1, a2, a3⟩ := hA
  obtain ⟨b1, b2, b3⟩ := hB
  have H3 := Lib.hid a3
  have H4 := Lib.hid b3
  have H1 := Lib.hid a1
  clear a1 b1 a3 b3
  go_enter Tryd.func29, Tryd.ntmps29
  go_wp2
  go_loopw [5] (fun i wr => ∃ k : Nat, k ≤ n ∧ i = .int .i64 k ∧ ∃ m, wr = w.drewN m) (fun i _ => n - (intOf i).toNat)
  case atStart => exact ⟨0, Nat.zero_le _, rfl, 0, rfl⟩
  case round =>
    obtain ⟨k, hk, rfl, m, hm⟩ := hrel
    have HM := Lib.hid hm
    by_cases hlt : k < n
    · obtain ⟨g, hA, ca⟩ : ∃ g, A = some ⟨g, 0, none⟩ ∧ ∀ j x, es[j]? = some x → w.cell? ⟨g, j, none⟩ = some (.int .i64 x) := by
        rcases H3.out with ⟨h, _⟩ | h
        · have := H1.out; rw [h] at this; simp at this; omega
        · exact h
      obtain ⟨g', hB, cb⟩ : ∃ g, B = some ⟨g, 0, none⟩ ∧ ∀ j x, es[j]? = some x → w.cell? ⟨g, j, none⟩ = some (.int .i64 x) := by
        rcases H4.out with ⟨h, _⟩ | h
        · have := H1.out; rw [h] at this; simp at this; omega
        · exact h
      subst hA
      subst hB
      have hkl : k < es.length := by have := H1.out; omega
      have ga : wr.cell? ⟨g, k, none⟩ = some (.int .i64 es[k]) := by subst hm; exact ca k _ (List.getElem?_eq_getElem hkl)
      have gb : wr.cell? ⟨g', k, none⟩ = some (.int .i64 es[k]) := by subst hm; exact cb k _ (List.getElem?_eq_getElem hkl)
      generalize es[k] = x at ga gb
      have hlI : (k : Int) < (n : Int) := by omega
      have hkI : (0 : Int) ≤ (k : Int) := by omega
      have hkb : (k : Int) ≤ 1000 := by omega
      clear hm ca cb
      go_wp2
      go_quiet (fail)
      go_wp2
      go_roundw
      case rel => exact ⟨k + 1, by omega, by go_num, by obtain rfl := HM.out; exact ⟨_, by rw [World.drewN_drewN]⟩⟩
      case measure => simp [intOf]; omega
    · clear hm
      go_wp2
      go_ret
      exact ⟨rfl, below_of_drew ⟨m, HM.out⟩ _⟩

set_option maxRecDepth 100000 in
set_option maxHeartbeats 2000000 in
theorem alike_yes (v : Value) (A : Option Addr) (n c : Nat) (at_ : Int) (es : List Int) (w : World) (hg : ErrType w) (hc : Chained w v es) (hr : RF w A n c es) (hn : n ≤ 1000) :
    Calls Tryd.prog 11 #[v, .agg #[.slice A n c, .int .i64 at_]] w fun e w' => e = .returned (.bool true) ∧ Below w.heap.size w w' := by
  have hl0 := hr.1
  subst hl0
  have hb0 : Below w.heap.size w (w.alloc (.cells #[.slice A es.length c, .int .i64 at_] 38)) := (Below.refl _ _).alloc (Nat.le_refl _) _
  have HG := Lib.hid (hg.below hb0)
  have HC := Lib.hid (hc.below hb0)
  have HR := Lib.hid (hr.below hb0)
  have HB := Lib.hid hb0
  have k0 : (w.alloc (.cells #[.slice A es.length c, .int .i64 at_] 38)).cell? ⟨w.heap.size, 0, none⟩ = some (.slice A es.length c) := by simp
  have k1 : (w.alloc (.cells #[.slice A es.length c, .int .i64 at_] 38)).cell? ⟨w.heap.size, 1, none⟩ = some (.int .i64 at_) := by simp
  have K0 := Lib.hid k0
  have K1 := Lib.hid k1
  have z0 : w.heap.size < (w.alloc (.cells #[.slice A es.length c, .int .i64 at_] 38)).heap.size := by simp
  have Z0 := Lib.hid z0
  clear hg hc hr hb0 k0 k1 z0
  go_enter Tryd.func11, Tryd.ntmps11
  go_wp2_with fail
  have hk0 := K0.out
  have hk1 := K1.out
  generalize w.alloc (.cells #[.slice A es.length c, .int .i64 at_] 38) = w0 at HG HC HR HB K0 K1 Z0 hk0 hk1 ⊢
  have hbd : Below w0.heap.size w0 w0.drew := (Below.refl _ _).drew
  have Gz := Lib.hid (HG.out.below hbd)
  have Cz := Lib.hid (HC.out.below hbd)
  have Rz := Lib.hid (HR.out.below hbd)
  have Bz := Lib.hid (show Below w.heap.size w w0.drew from HB.out.drew)
  have Kz0 := Lib.hid (show w0.drew.cell? ⟨w.heap.size, 0, none⟩ = some (.slice A es.length c) from hk0)
  have Kz1 := Lib.hid (show w0.drew.cell? ⟨w.heap.size, 1, none⟩ = some (.int .i64 at_) from hk1)
  have Zz := Lib.hid (show w.heap.size < w0.drew.heap.size from Z0.out)
  clear hbd
  go_region_held3 (fun w' => w'.cell? ⟨w.heap.size, 0, none⟩ = some (.slice A es.length c) ∧ w'.cell? ⟨w.heap.size, 1, none⟩ = some (.int .i64 at_))
    (first | go_keep | exact ⟨hd0, hd1⟩ | exact ⟨hc0, hc1⟩ | exact ⟨hb0, hb1⟩ | exact ⟨ha0, ha1⟩)
    (first
      | (go_at_call 18; refine (code_any v es _ Gz.out Cz.out hn).mono ?_; rintro e wa ⟨rfl, hbx⟩; (have ha0 : wa.cell? ⟨w.heap.size, 0, none⟩ = some (.slice A es.length c) := by rw [hbx.cell (p := ⟨w.heap.size, 0, none⟩) Zz.out]; exact Kz0.out); (have ha1 : wa.cell? ⟨w.heap.size, 1, none⟩ = some (.int .i64 at_) := by rw [hbx.cell (p := ⟨w.heap.size, 1, none⟩) Zz.out]; exact Kz1.out); have Ka0 := Lib.hid ha0; have Ka1 := Lib.hid ha1; have Za := Lib.hid (Nat.lt_of_lt_of_le Zz.out hbx.size); have Ga := Lib.hid (Gz.out.below hbx); have Ca := Lib.hid (Cz.out.below hbx); have Ra := Lib.hid (Rz.out.below hbx); have Ba := Lib.hid (Bz.out.trans (hbx.mono (Nat.le_of_lt Zz.out))); clear hbx)
      | (go_at_call 27; refine (rcode_any A es.length c es at_ _ Ra.out hn).mono ?_; rintro e wb ⟨rfl, hbx⟩; (have hb0 : wb.cell? ⟨w.heap.size, 0, none⟩ = some (.slice A es.length c) := by rw [hbx.cell (p := ⟨w.heap.size, 0, none⟩) Za.out]; exact Ka0.out); (have hb1 : wb.cell? ⟨w.heap.size, 1, none⟩ = some (.int .i64 at_) := by rw [hbx.cell (p := ⟨w.heap.size, 1, none⟩) Za.out]; exact Ka1.out); have Kb0 := Lib.hid hb0; have Kb1 := Lib.hid hb1; have Zb := Lib.hid (Nat.lt_of_lt_of_le Za.out hbx.size); have Gb := Lib.hid (Ga.out.below hbx); have Cb := Lib.hid (Ca.out.below hbx); have Rb := Lib.hid (Ra.out.below hbx); have Bb := Lib.hid (Ba.out.trans (hbx.mono (Nat.le_of_lt Za.out))); clear hbx)
      | (go_at_call 28; refine (chain_any v es _ Gb.out Cb.out hn).mono ?_; rintro e wc ⟨sl, rfl, hown, hbx⟩; (have hc0 : wc.cell? ⟨w.heap.size, 0, none⟩ = some (.slice A es.length c) := by rw [hbx.cell (p := ⟨w.heap.size, 0, none⟩) Zb.out]; exact Kb0.out); (have hc1 : wc.cell? ⟨w.heap.size, 1, none⟩ = some (.int .i64 at_) := by rw [hbx.cell (p := ⟨w.heap.size, 1, none⟩) Zb.out]; exact Kb1.out); (obtain ⟨sA, sc, hsl, hsr⟩ := RF.of_owned hown); subst hsl; have Sr := Lib.hid hsr; clear hown hsr; have Kc0 := Lib.hid hc0; have Kc1 := Lib.hid hc1; have Zc := Lib.hid (Nat.lt_of_lt_of_le Zb.out hbx.size); have Gc := Lib.hid (Gb.out.below hbx); have Cc := Lib.hid (Cb.out.below hbx); have Rc := Lib.hid (Rb.out.below hbx); have Bc := Lib.hid (Bb.out.trans (hbx.mono (Nat.le_of_lt Zb.out))); clear hbx)
      | (go_at_call 29; refine (same_yes sA A es.length sc c es _ Sr.out Rc.out hn).mono ?_; rintro e wd ⟨rfl, hbx⟩; (have hd0 : wd.cell? ⟨w.heap.size, 0, none⟩ = some (.slice A es.length c) := by rw [hbx.cell (p := ⟨w.heap.size, 0, none⟩) Zc.out]; exact Kc0.out); (have hd1 : wd.cell? ⟨w.heap.size, 1, none⟩ = some (.int .i64 at_) := by rw [hbx.cell (p := ⟨w.heap.size, 1, none⟩) Zc.out]; exact Kc1.out); have Kd0 := Lib.hid hd0; have Kd1 := Lib.hid hd1; have Zd := Lib.hid (Nat.lt_of_lt_of_le Zc.out hbx.size); have Gd := Lib.hid (Gc.out.below hbx); have Cd := Lib.hid (Cc.out.below hbx); have Rd := Lib.hid (Rc.out.below hbx); have Bd := Lib.hid (Bc.out.trans (hbx.mono (Nat.le_of_lt Zc.out))); clear hbx))
  go_wp2
  go_ret
  exact ⟨rfl, Bd.out⟩
end Go.Proofs.YtionhkcbobddjaaDoor
