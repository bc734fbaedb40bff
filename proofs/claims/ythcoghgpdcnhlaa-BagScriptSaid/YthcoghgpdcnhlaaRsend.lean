/-
  The document's own Send and has of layer 4 (weirkeepref04), by contracts.
-/
import Derived.Test.YthcoghgpdcnhlaaBag
import Derived.Laws.AppendOwnNone
import Derived.Deep.DeepCutAuto
namespace Go.Proofs.Ythcoghgpdcnhlaa
open Go.RowKit

/-- The field is stored anew, with a row of its own. -/
theorem Bg.anew {w w1 w2 : World} {b : Nat} {row : Option Nat} {l l' : List M} {v : Value} {B : Nat} (hB : Bg w b row l) (hb : Below w.heap.size w w1) (hg : Below w.heap.size w1 w2) (ho : Owns w2 B v l') (hBw : w.heap.size ≤ B) :
    Bg (w2.setCell ⟨b, 0, none⟩ v) b v.ownBlock l' ∧ RowOk row v.ownBlock w ∧ Fr b row w (w2.setCell ⟨b, 0, none⟩ v) := by
  have hbl := hB.lt
  have h2 := hb.trans hg
  obtain ⟨s, hs, hf, -, -⟩ := hB
  refine ⟨Bg.stored ((h2.cell (p := ⟨b, 0, none⟩) hbl).trans hs) ((h2.frozen (p := ⟨b, 0, none⟩) hbl).trans hf) (ho.mono (by omega)), ?_, (Fr.of_below h2).set⟩
  rcases ho.form with ⟨rfl, -⟩ | ⟨g, cap, rfl, hg', -⟩
  · exact .inr (.inl rfl)
  · exact .inr (.inr ⟨g, rfl, by omega⟩)

set_option maxRecDepth 100000 in
set_option maxHeartbeats 2000000 in
theorem rsend_any (b : Nat) (row : Option Nat) (l : List M) (m : M) (w : World) (hB : Bg w b row l) (hl : l.length ≤ 900) :
    Calls Try.prog 24 #[.pointer (some ⟨b, 0, none⟩), m.val] w fun e w' => e = .returned (.int .i64 (sendE l m)) ∧ ∃ row', Bg w' b row' (sendL l m) ∧ RowOk row row' w ∧ Fr b row w w' := by
  obtain ⟨i0, hi0, hz0, hz1', hz2⟩ := info_parts infoMsg
  have hbl := hB.lt
  have hb0 : Below w.heap.size w (w.alloc (.cells m.cells 31)) := (Below.refl _ _).alloc (Nat.le_refl _) _
  have HB := Lib.hid hB
  have HB0 := Lib.hid hb0
  have HM0 := Lib.hid (Mat.fresh w m 31)
  clear hb0 hB
  by_cases hc : m.chk = 0
  · by_cases hfull : 64 ≤ l.length
    · have e1 : sendE l m = 2 := by rw [sendE, if_pos hc, roomE, if_pos hfull]
      have e2 : sendL l m = l := by rw [sendL, if_pos hc, roomL, if_pos hfull]
      have hfI : (64 : Int) ≤ (l.length : Int) := by omega
      have hdI : decide ((64 : Int) ≤ (l.length : Int)) = true := by simpa using hfI
      rw [e1, e2]
      go_enter Try.func24, Try.ntmps24
      go_wp2_with fail
      go_at_call 40
      refine (rcheck_any m _).mono ?_
      rintro e w1 ⟨rfl, hb1⟩
      rw [hc]
      have HB1 := Lib.hid (HB0.out.trans (hb1.mono HB0.out.size))
      obtain ⟨s, hs, -, ho, -⟩ := HB.out.below HB1.out
      obtain ⟨A, cap, rfl, -⟩ := ho.look
      clear hb1 HB0 HM0 ho
      go_wp2
      go_ret
      exact ⟨rfl, row, HB.out.below HB1.out, .inl rfl, Fr.of_below HB1.out⟩
    · have e1 : sendE l m = 0 := by rw [sendE, if_pos hc, roomE, if_neg hfull]
      have e2 : sendL l m = l ++ [m] := by rw [sendL, if_pos hc, roomL, if_neg hfull]
      have hfI : ¬ ((64 : Int) ≤ (l.length : Int)) := by omega
      have hfJ : (l.length : Int) < 64 := by omega
      rw [e1, e2]
      go_enter Try.func24, Try.ntmps24
      go_wp2_with fail
      go_at_call 40
      refine (rcheck_any m _).mono ?_
      rintro e w1 ⟨rfl, hb1⟩
      rw [hc]
      have HB1 := Lib.hid (HB0.out.trans (hb1.mono HB0.out.size))
      have HM1 := Lib.hid (HM0.out.below hb1)
      have hz : w.heap.size ≤ w1.heap.size := HB1.out.size
      obtain ⟨s, hs, hf, ho, -⟩ := HB.out.below HB1.out
      have hbr : b < w1.heap.size := by omega
      have hbE : Below w1.heap.size w1 (w1.alloc (.cells #[] 31)) := (Below.refl _ _).alloc (Nat.le_refl _) _
      have HE := Lib.hid (World.ownsRow_lit (base := w1.heap.size) (e := 31) (size := 8) w1 #[] 0 (Nat.le_refl _) (by simp) rfl)
      have HO1 := Lib.hid (ho.below hbE)
      have HM2 := Lib.hid (HM1.out.below hbE)
      have HF1 := Lib.hid hf
      have HS1 := Lib.hid hs
      have hml := HM1.out.lt
      obtain ⟨sw, hsw, hfw, -, -⟩ := HB.out
      have HSw := Lib.hid hsw
      have HFw := Lib.hid hfw
      clear hsw hfw
      rcases ho.form with ⟨rfl, rfl⟩ | ⟨g, cap, rfl, -, hgl, -⟩
      · clear hb1 HB0 HM0 ho hf HO1 hc
        go_upto_region 7 with (at_builtin; refine wpList_append_own_none rfl (.tmp 22) (.tmp 26) 27 rfl w1.heap.size 31 i0 8 Try.underlying27 hi0 (.slice (some ⟨w1.heap.size, 0, none⟩) 0 0) 0 [] rfl HE.out rfl ?_)
        obtain ⟨w2, hw2⟩ : ∃ w2, w1.alloc (.cells #[] 31) = w2 := ⟨_, rfl⟩
        obtain ⟨v, hv⟩ : ∃ v, Value.slice (some ⟨w1.heap.size, 0, none⟩) 0 0 = v := ⟨_, rfl⟩
        have hown2 := HE.out
        rw [hw2, hv] at hown2 ⊢
        rw [hw2] at hbE HM2
        have hgrow : w1.grownBy w2 none := hw2 ▸ World.grownBy_alloc w1 _ none
        have hz12 : w1.heap.size ≤ w2.heap.size := hgrow.size
        clear hw2 hv
        have hb2 : Below w.heap.size w1 w2 := hbE.mono hz
        have hb2' : Below w1.heap.size w1 w2 := hbE
        have HM3 := Lib.hid (HM1.out.below hb2')
        obtain ⟨d0, d1, d2, d3, d4, d5, d6, d7⟩ := HM3.out.all
        have HB2 := Lib.hid (HB1.out.trans hb2)
        have hz2' : w.heap.size < w2.heap.size := HM3.out.lt
        have HO2 := Lib.hid (show Owns w2 w1.heap.size v [] from hown2)
        clear hgrow hown2 hb2 hb2' HM1 HM2 HE hbE
        have HN := Lib.hid (show ∀ j u, (flat [m])[j]? = some u → (w2.alloc (.cells m.cells 31)).cell? ((⟨w2.heap.size, 0, none⟩ : Addr).add j) = some u from fun j u hu => World.news_of_block (cs := m.cells) (t := 31) (fr := (0, 0)) (heap_alloc_new w2 _) j u (by rw [flat_one] at hu; exact hu))
        go_wp2_with (at_builtin; refine wpList_append_lies _ rfl (.tmp 29) (.tmp 31) 27 rfl w1.heap.size 31 i0 _ 8 72 Try.underlying27 hi0 hz0 hz1' hz2 rfl (by decide) v 0 [] rfl (World.ownsRow.alloc HO2.out _) ⟨w2.heap.size, 0, none⟩ 1 1 (flat [m]) rfl (by simp [flat]) HN.out (flat_oneCell _) (by decide) (by unfold maxLen; omega) (by omega) (by simp; omega) (w2.heap.size + 1) (by simp) ?_; intro g3 cap3 w3 hown3 hgrow3 _ _; (have hb3 : Below w.heap.size w w3 := (HB2.out.alloc (by omega) _).grown hgrow3 (by simp; omega) (fun k hk => by have := (HO2.out.lt hk).1; omega)); (have x1 := (hb3.cell (p := ⟨b, 0, none⟩) hbl).trans HSw.out); (have x2 := (hb3.frozen (p := ⟨b, 0, none⟩) hbl).trans HFw.out); have HB3 := Lib.hid hb3; have HO3 := Lib.hid hown3; clear hb3 hown3 hgrow3)
        go_ret
        have := Bg.anew (v := .slice (some ⟨g3, 0, none⟩) (0 + 1) cap3) HB.out (Below.refl _ _) HB3.out (l' := [] ++ [m]) (B := w1.heap.size) (by simpa [Owns] using HO3.out) hz
        exact ⟨rfl, _, this.1, this.2.1, this.2.2⟩
      · have HN1 := Lib.hid HO1.out.news
        clear hb1 HB0 HM0 ho hf HO1 hc
        go_upto_region 7 with (at_builtin; refine wpList_append_own _ rfl (.tmp 22) (.tmp 26) 27 rfl w1.heap.size 31 i0 _ 8 72 Try.underlying27 hi0 hz0 hz1' hz2 rfl (by decide) (.slice (some ⟨w1.heap.size, 0, none⟩) 0 0) 0 [] rfl HE.out ⟨g, 0, none⟩ l.length cap (flat l) rfl (flat_length l) HN1.out (flat_oneCell _) (by unfold maxLen; omega) (by omega) (by simp) ?_; intro v w2 hown2 hgrow _)
        have hz12 : w1.heap.size ≤ w2.heap.size := by have := hgrow.size; simp at this; omega
        have hb2 : Below w.heap.size w1 w2 := (hbE.mono hz).grown hgrow (by simp; omega) (fun k hk => by simp [Value.ownBlock] at hk; omega)
        have hb2' : Below w1.heap.size w1 w2 := hbE.grown hgrow (by simp) (fun k hk => by simp [Value.ownBlock] at hk; omega)
        have HM3 := Lib.hid (HM1.out.below hb2')
        obtain ⟨d0, d1, d2, d3, d4, d5, d6, d7⟩ := HM3.out.all
        have HB2 := Lib.hid (HB1.out.trans hb2)
        have hz2' : w.heap.size < w2.heap.size := HM3.out.lt
        have HO2 := Lib.hid (show Owns w2 w1.heap.size v l from by simpa [Owns] using hown2)
        clear hgrow hown2 hb2 hb2' HM1 HM2 HE hbE
        have HN := Lib.hid (show ∀ j u, (flat [m])[j]? = some u → (w2.alloc (.cells m.cells 31)).cell? ((⟨w2.heap.size, 0, none⟩ : Addr).add j) = some u from fun j u hu => World.news_of_block (cs := m.cells) (t := 31) (fr := (0, 0)) (heap_alloc_new w2 _) j u (by rw [flat_one] at hu; exact hu))
        go_wp2_with (at_builtin; refine wpList_append_lies _ rfl (.tmp 29) (.tmp 31) 27 rfl w1.heap.size 31 i0 _ 8 72 Try.underlying27 hi0 hz0 hz1' hz2 rfl (by decide) v l.length (flat l) rfl (World.ownsRow.alloc HO2.out _) ⟨w2.heap.size, 0, none⟩ 1 1 (flat [m]) rfl (by simp [flat]) HN.out (flat_oneCell _) (by decide) (by unfold maxLen; omega) (by omega) (by simp; omega) (w2.heap.size + 1) (by simp) ?_; intro g3 cap3 w3 hown3 hgrow3 _ _; (have hb3 : Below w.heap.size w w3 := (HB2.out.alloc (by omega) _).grown hgrow3 (by simp; omega) (fun k hk => by have := (HO2.out.lt hk).1; omega)); (have x1 := (hb3.cell (p := ⟨b, 0, none⟩) hbl).trans HSw.out); (have x2 := (hb3.frozen (p := ⟨b, 0, none⟩) hbl).trans HFw.out); have HB3 := Lib.hid hb3; have HO3 := Lib.hid hown3; clear hb3 hown3 hgrow3)
        go_ret
        have := Bg.anew (v := .slice (some ⟨g3, 0, none⟩) (l.length + 1) cap3) HB.out (Below.refl _ _) HB3.out (l' := l ++ [m]) (B := w1.heap.size) (by unfold Owns; rw [flat_append]; simpa using HO3.out) hz
        exact ⟨rfl, _, this.1, this.2.1, this.2.2⟩
  · have e1 : sendE l m = m.chk := if_neg hc
    have e2 : sendL l m = l := if_neg hc
    have hc1 : (m.chk == 0) = false := by simpa using hc
    rw [e1, e2]
    go_enter Try.func24, Try.ntmps24
    go_wp2_with fail
    go_at_call 40
    refine (rcheck_any m _).mono ?_
    rintro e w1 ⟨rfl, hb1⟩
    have HB1 := Lib.hid (HB0.out.trans (hb1.mono HB0.out.size))
    clear hb1 HB0 HM0
    go_wp2
    go_ret
    exact ⟨rfl, row, HB.out.below HB1.out, .inl rfl, Fr.of_below HB1.out⟩
end Go.Proofs.Ythcoghgpdcnhlaa
