/-
  A log's config, as plain data; texts that an argument has; the document's New. Replay (package config), by a contract: what a log comes to. Replay (the document's own), by a contract: what a log comes to.
-/
import Derived.Test.YthjinpbclfankaaGreatDoorOrd
import Derived.Test.YthjinpbclfankaaGreatDoorAft
import Derived.Test.YthjinpbclfankaaGreatDoorPdec
import Derived.Laws.EntriesVeiled
import Derived.Test.YthjinpbclfankaaGreatDoorRdec
import Derived.Test.YthjinpbclfankaaGreatDoorRc7
namespace Go.Proofs.YthjinpbclfankaaGreatDoor
open Go.RowKit

/-- The texts of a list. -/
def Strs (w : World) (A : Option Addr) (n : Nat) (tx : Nat → ByteArray) : Prop := ∀ i, i < n → ∃ b off, A = some ⟨b, off, none⟩ ∧ b < w.heap.size ∧ w.cell? ⟨b, off + i, none⟩ = some (.string (tx i)) ∧ (tx i).size ≤ 9223372036854775807
theorem Strs.below {w w' : World} {A : Option Addr} {n : Nat} {tx : Nat → ByteArray} (h : Strs w A n tx) (hb : Below w.heap.size w w') : Strs w' A n tx := fun i hi => by
  obtain ⟨b, off, e, hl, hc, hz⟩ := h i hi
  exact ⟨b, off, e, Nat.lt_of_lt_of_le hl hb.size, (hb.cell (p := ⟨b, off + i, none⟩) hl).trans hc, hz⟩
noncomputable def rstp (c : Cf) (s : ByteArray) : Cf := if (decO s).2 = 0 then stp c (decO s).1 else c
noncomputable def repN (tx : Nat → ByteArray) : Nat → Cf
  | 0 => cf0
  | k + 1 => rstp (repN tx k) (tx k)
theorem repN_ok (tx : Nat → ByteArray) (k : Nat) : (repN tx k).ok ∧ 1 ≤ (repN tx k).e ∧ (repN tx k).e ≤ 1 + k := by
  induction k with
  | zero => exact ⟨cf0_ok, show 1 ≤ cf0.e by decide, show cf0.e ≤ 1 + ((0 : Nat) : Int) by decide⟩
  | succ k ih =>
    have e : repN tx (k + 1) = rstp (repN tx k) (tx k) := rfl
    rw [e]
    unfold rstp
    split
    · obtain ⟨a, b, c⟩ := stp_ok ih.1 (decO (tx k)).1
      exact ⟨a, by omega, by omega⟩
    · exact ⟨ih.1, ih.2.1, by omega⟩
@[reducible] def crow (c : Cf) (A1 : Option Addr) (n1 c1 : Nat) (A2 : Option Addr) (n2 c2 : Nat) : Array Value := #[.int .i64 c.e, .slice A1 n1 c1, .slice A2 n2 c2, .int .i64 c.t]
/-- A config's numbers and parts do not lie in a block that was made for a config. -/
theorem IC.stored {w w' : World} {v : Value} {c : Cf} {D : Nat} {T : TypeId} {a x : Value} {A1 A2 : Option Addr} {n1 c1 n2 c2 : Nat} (h : IC w v c) (hz : w.heap[D]? = some (.cells #[a, .slice A1 n1 c1, .slice A2 n2 c2, x] T (0, 0))) (h2 : c.srv.length = 0 ∨ 2 ≤ c.srv.length) (hs : w.heap.size ≤ w'.heap.size) (hb : ∀ q, q < w.heap.size → q ≠ D → w'.heap[q]? = w.heap[q]?) : IC w' v c := by
  have z1 : w.cell? ⟨D, 1, none⟩ = some (.slice A1 n1 c1) := cell_of_row _ _ 1 _ _ _ hz
  have z2 : w.cell? ⟨D, 2, none⟩ = some (.slice A2 n2 c2) := cell_of_row _ _ 2 _ _ _ hz
  have z4 : ∀ j, 4 ≤ j → w.cell? ⟨D, j, none⟩ = none := fun j hj => by
    rw [cell_of_row _ _ j _ _ _ hz]
    simp; omega
  have none2 : ∀ (o : Nat) (p q : Int), w.cell? ⟨D, o, none⟩ = some (.int .i64 p) → w.cell? ⟨D, o + 1, none⟩ = some (.int .i64 q) → False := fun o p q h1 h2 => by
    rcases (show o = 0 ∨ o = 1 ∨ o = 2 ∨ 3 ≤ o by omega) with rfl | rfl | rfl | h3
    · rw [z1] at h2; simp at h2
    · rw [z1] at h1; simp at h1
    · rw [z2] at h1; simp at h1
    · rw [z4 (o + 1) (by omega)] at h2; cases h2
  obtain ⟨sv, pv, rfl, ⟨A1, c1, rfl, h1⟩, ⟨A2, c2, rfl, h3⟩⟩ := h
  refine ⟨_, _, rfl, ⟨A1, c1, rfl, fun i y hy => ?_⟩, ⟨A2, c2, rfl, fun i p hp => ?_⟩⟩
  · obtain ⟨g, o, rfl, hg, hc⟩ := h1 i y hy
    refine ⟨g, o, rfl, Nat.lt_of_lt_of_le hg hs, ?_⟩
    have hlt := (List.getElem?_eq_some_iff.1 hy).1
    have hne : g ≠ D := by
      rintro rfl
      obtain ⟨y0, e0⟩ : ∃ y0, c.srv[0]? = some y0 := ⟨_, List.getElem?_eq_getElem (by omega)⟩
      obtain ⟨y1, e1⟩ : ∃ y1, c.srv[1]? = some y1 := ⟨_, List.getElem?_eq_getElem (by omega)⟩
      obtain ⟨g0, o0, f0, -, k0⟩ := h1 0 _ e0
      obtain ⟨g1, o1, f1, -, k1⟩ := h1 1 _ e1
      simp only [Option.some.injEq, Addr.mk.injEq, and_true] at f0 f1
      obtain ⟨rfl, rfl⟩ := f0
      obtain ⟨rfl, rfl⟩ := f1
      rw [Nat.add_zero] at k0
      exact none2 _ _ _ k0 k1
    rw [World.cell?_of_block (hb g hg hne)]
    exact hc
  · obtain ⟨g, o, rfl, hg, k0, k1, k2, k3⟩ := h3 i p hp
    have hne : g ≠ D := by
      rintro rfl
      exact none2 _ _ _ k0 k1
    have hB := hb g hg hne
    exact ⟨g, o, rfl, Nat.lt_of_lt_of_le hg hs, (World.cell?_of_block hB).trans k0, (World.cell?_of_block hB).trans k1, (World.cell?_of_block hB).trans k2, (World.cell?_of_block hB).trans k3⟩
theorem apl_two {c : Cf} (h : c.ok) (o : Od) : (apl c o).1.srv.length = 0 ∨ 2 ≤ (apl c o).1.srv.length := by
  by_cases h0 : (apl c o).2 = 0
  · exact .inr (apl_ok h o h0).1.2.1
  · have e : (apl c o).1 = cfz := by
      unfold apl at h0 ⊢
      rw [if_pos h] at h0 ⊢
      by_cases q1 : c.e = 1099511627776
      · rw [if_pos q1]
      · rw [if_neg q1] at h0 ⊢
        by_cases q2 : (change c o).1 = 0
        · rw [if_pos q2] at h0; exact absurd rfl h0
        · rw [if_neg q2]
    rw [e]
    exact .inl rfl
theorem rnew12_any (w : World) : Calls Tryz.prog 28 #[] w fun e w' => ∃ v, e = .returned v ∧ IC w' v cf0 ∧ Below w.heap.size w w' := by
  go_enter Tryz.func28, Tryz.ntmps28
  go_wp2_with fail
  go_returns
  refine ⟨_, rfl, ⟨_, _, rfl, ?_, ?_⟩, by go_grown⟩
  · exact OwnsI.inI (lit_ints _ (w.heap.size + 1 + 1) (by simp) [0, 1] _ rfl (by simp))
  · exact (OwnsP.inP (lit_part _ _ (w.heap.size + 1) (by simp) [⟨0, 256, 0, 1⟩] _ rfl (by simp))).below ((Below.refl _ _).alloc (Nat.le_refl _) _)
end Go.Proofs.YthjinpbclfankaaGreatDoor
namespace Go.Proofs.YthjinpbclfankaaGreatDoor
open Go.RowKit

set_option maxRecDepth 100000 in
set_option maxHeartbeats 40000000 in
theorem prep_any {w : World} {A : Option Addr} {n cap : Nat} {tx : Nat → ByteArray} (hS : Strs w A n tx) (hn : n ≤ 60) (hx : ∀ i, i < n → (tx i).size ≤ 1024) :
    Calls Tryz.prog 11 #[.slice A n cap] w fun e w' => ∃ v', e = .returned v' ∧ IC w' v' (repN tx n) ∧ Below w.heap.size w w' := by
  have hb1 : Below w.heap.size w (w.alloc (.cells #[.int .i64 0, .slice none 0 0, .slice none 0 0, .int .i64 0] 45)) := (Below.refl _ _).alloc (Nat.le_refl _) _
  have hx0 := heap_alloc_new w (.cells #[.int .i64 0, .slice none 0 0, .slice none 0 0, .int .i64 0] 45)
  have HS := Lib.hid (fun (W : World) (hW : Below w.heap.size w W) => hS.below hW)
  have HSZ := Lib.hid hx
  have HB1 := Lib.hid hb1
  have HX0 := Lib.hid hx0
  clear hb1 hx0 hS hx
  go_enter Tryz.func11, Tryz.ntmps11
  go_wp2_with fail
  go_at_call 14
  refine (new12_any _).mono ?_
  rintro e w2 ⟨v, rfl, hic, hb2⟩
  have hNT : w.heap.size < w2.heap.size := by have := hb2.size; simp at this; omega
  have hxN := (hb2.block w.heap.size (by simp)).trans HX0.out
  have hB2 := HB1.out.trans (hb2.mono HB1.out.size)
  have hic' := hic
  obtain ⟨sv, pv, rfl, ⟨A1, c1, rfl, -⟩, ⟨A2, c2, rfl, -⟩⟩ := hic'
  have hic3 := hic.below ((Below.refl _ _).alloc (Nat.le_refl _) (.cells (crow cf0 A1 cf0.srv.length c1 A2 cf0.pts.length c2) 45))
  have hB3 := hB2.alloc hB2.size (.cells (crow cf0 A1 cf0.srv.length c1 A2 cf0.pts.length c2) 45)
  have hxN3 : (w2.alloc (.cells (crow cf0 A1 cf0.srv.length c1 A2 cf0.pts.length c2) 45)).heap[w.heap.size]? = _ := (heap_alloc_old _ _ hNT).trans hxN
  have hxT3 := heap_alloc_new w2 (.cells (crow cf0 A1 cf0.srv.length c1 A2 cf0.pts.length c2) 45)
  clear hic hb2 hxN hB2 HB1 HX0
  have HIC := Lib.hid hic3
  have HB := Lib.hid hB3
  have HXN := Lib.hid hxN3
  have HXT := Lib.hid hxT3
  clear hic3 hB3 hxN3 hxT3
  go_wp2_with fail
  go_loopw [13] (fun iv wr => ∃ (k : Nat) (A1 : Option Addr) (n1 c1 : Nat) (A2 : Option Addr) (n2 c2 : Nat), k ≤ n ∧ iv = .int .i64 k ∧ Below w.heap.size w wr ∧ wr.heap[w.heap.size]? = some (.cells #[.int .i64 0, .slice none 0 0, .slice none 0 0, .int .i64 0] 45 (0, 0)) ∧ wr.heap[w2.heap.size]? = some (.cells (crow (repN tx k) A1 n1 c1 A2 n2 c2) 45 (0, 0)) ∧ IC wr (.agg (crow (repN tx k) A1 n1 c1 A2 n2 c2)) (repN tx k)) (fun iv _ => n - (intOf iv).toNat)
  case atStart => exact ⟨0, _, _, _, _, _, _, Nat.zero_le _, rfl, HB.out, HXN.out, HXT.out, HIC.out⟩
  case round =>
    obtain ⟨k, A1, n1, c1, A2, n2, c2, hk, rfl, hb, hxN, hxT, hic⟩ := hrel
    have hkf := repN_ok tx k
    have HBr := Lib.hid hb
    have HXN := Lib.hid hxN
    have HXT := Lib.hid hxT
    have HIC := Lib.hid hic
    have y0 := cell_of_row _ _ 0 _ _ _ hxT
    have y1 := cell_of_row _ _ 1 _ _ _ hxT
    have y2 := cell_of_row _ _ 2 _ _ _ hxT
    have y3 := cell_of_row _ _ 3 _ _ _ hxT
    have hTl : w2.heap.size < wr.heap.size := lt_of hxT
    by_cases hlt : k < n
    · obtain ⟨g, o, rfl, hg, hcl, -⟩ := HS.out _ hb k hlt
      have hsz := HSZ.out k hlt
      have hst : repN tx (k + 1) = rstp (repN tx k) (tx k) := rfl
      unfold rstp stp at hst
      have HDE := Lib.hid (fun W : World => dec_any (tx k) W (by omega))
      generalize tx k = s at hcl hst HDE
      have HAp := Lib.hid (fun (x : Od) (W : World) (u : Value) (h : IC W u (repN tx k)) => apply_any h (by have := hkf.1.few; omega) (by have := hkf.1.few; omega) x)
      have HOK := Lib.hid hkf.1
      have HFW := Lib.hid (fun x => apl_two hkf.1 x)
      generalize repN tx k = c at hxN hxT hic hkf HBr HXN HXT HIC y0 y1 y2 y3 hst HAp HOK HFW
      generalize decO s = r at hst HDE
      obtain ⟨⟨xk, xn, xm, xf, xt⟩, e1⟩ := r
      have HST := Lib.hid hst
      have d1 : decide ((k : Int) < (n : Int)) = true := decide_eq_true (by omega)
      have hkI : (0 : Int) ≤ (k : Int) := by omega
      have hlI : (k : Int) < (n : Int) := by omega
      clear hxN hxT hic hst hkf hb
      go_wp2_with fail
      go_at_call 5
      refine (HDE.out _).mono ?_
      rintro e w5 ⟨rfl, hb5⟩
      have hal := (Below.refl w5.heap.size w5).alloc (Nat.le_refl _) (.cells #[.int .i64 xk, .int .i64 xn, .int .i64 xm, .int .i64 xf, .int .i64 xt] 26)
      have hb6 := hb5.trans (hal.mono hb5.size)
      have ho6 := heap_alloc_new w5 (.cells #[.int .i64 xk, .int .i64 xn, .int .i64 xm, .int .i64 xf, .int .i64 xt] 26)
      have HB6 := Lib.hid (HBr.out.trans (hb6.mono HBr.out.size))
      have HN6 := Lib.hid ((hb6.block _ (Nat.lt_trans hNT hTl)).trans HXN.out)
      have HT6 := Lib.hid ((hb6.block _ hTl).trans HXT.out)
      have HI6 := Lib.hid (HIC.out.below hb6)
      clear hb5 hal hb6 HBr HXN HXT HIC y0 y1 y2 y3 hcl
      by_cases he1 : e1 = 0
      case neg =>
        have q1 : (e1 != 0) = true := by simpa using he1
        have HC := Lib.hid (show repN tx (k + 1) = c by rw [HST.out]; exact if_neg he1)
        clear he1 ho6
        go_wp2_with fail
        go_roundw
        case rel => exact ⟨k + 1, A1, n1, c1, A2, n2, c2, by omega, by go_num, HB6.out, HN6.out, by rw [HC.out]; exact HT6.out, by rw [HC.out]; exact HI6.out⟩
        case measure => simp only [intOf]; omega
      case pos =>
      have q1 : (e1 != 0) = false := by simpa using he1
      have HST2 := Lib.hid (show repN tx (k + 1) = if (apl c ⟨xk, xn, xm, xf, xt⟩).2 = 0 then (apl c ⟨xk, xn, xm, xf, xt⟩).1 else c by rw [HST.out]; exact if_pos he1)
      have HFW2 := Lib.hid (HFW.out ⟨xk, xn, xm, xf, xt⟩)
      clear he1 HST HFW
      have HAp2 := Lib.hid (fun W u h => HAp.out ⟨xk, xn, xm, xf, xt⟩ W u h)
      generalize apl c ⟨xk, xn, xm, xf, xt⟩ = r at HST2 HAp2 HFW2
      obtain ⟨c', er⟩ := r
      have o0 := cell_of_row _ _ 0 _ _ _ ho6
      have o1 := cell_of_row _ _ 1 _ _ _ ho6
      have o2 := cell_of_row _ _ 2 _ _ _ ho6
      have o3 := cell_of_row _ _ 3 _ _ _ ho6
      have o4 := cell_of_row _ _ 4 _ _ _ ho6
      have y0 := cell_of_row _ _ 0 _ _ _ HT6.out
      have y1 := cell_of_row _ _ 1 _ _ _ HT6.out
      have y2 := cell_of_row _ _ 2 _ _ _ HT6.out
      have y3 := cell_of_row _ _ 3 _ _ _ HT6.out
      clear ho6
      go_wp2_with fail
      go_at_call 27
      refine (HAp2.out _ _ HI6.out).mono ?_
      rintro e w7 ⟨v7, rfl, hic7, hb7, -⟩
      have hic7' := hic7
      obtain ⟨sv7, pv7, rfl, ⟨A6, d6, rfl, -⟩, ⟨A7, d7, rfl, -⟩⟩ := hic7'
      have hal := (Below.refl w7.heap.size w7).alloc (Nat.le_refl _) (.cells (crow c' A6 c'.srv.length d6 A7 c'.pts.length d7) 45)
      have hb8 := hb7.trans (hal.mono hb7.size)
      have HB8 := Lib.hid (HB6.out.trans (hb8.mono HB6.out.size))
      have HN8 := Lib.hid ((hb8.block _ (lt_of HN6.out)).trans HN6.out)
      have HT8 := Lib.hid ((hb8.block _ (lt_of HT6.out)).trans HT6.out)
      have HI8 := Lib.hid (HI6.out.below hb8)
      have HJ8 := Lib.hid (hic7.below hal)
      have ho8 := heap_alloc_new w7 (.cells (crow c' A6 c'.srv.length d6 A7 c'.pts.length d7) 45)
      have z0 := cell_of_row _ _ 0 _ _ _ ho8
      have z1 := cell_of_row _ _ 1 _ _ _ ho8
      have z2 := cell_of_row _ _ 2 _ _ _ ho8
      have z3 := cell_of_row _ _ 3 _ _ _ ho8
      clear HB6 HN6 HT6 HI6 o0 o1 o2 o3 o4 y0 y1 y2 y3 ho8 hb7 hb8 hal hic7
      have y0 := cell_of_row _ _ 0 _ _ _ HT8.out
      have y1 := cell_of_row _ _ 1 _ _ _ HT8.out
      have y2 := cell_of_row _ _ 2 _ _ _ HT8.out
      have y3 := cell_of_row _ _ 3 _ _ _ HT8.out
      have tf : ∀ j, (w7.alloc (.cells (crow c' A6 c'.srv.length d6 A7 c'.pts.length d7) 45)).frozen? ⟨w2.heap.size, j, none⟩ = false := fun j => by unfold World.frozen?; simp only [HT8.out]; simp
      by_cases her : er = 0
      · have q2 : (er == 0) = true := by simpa using her
        have HC := Lib.hid (show repN tx (k + 1) = c' by rw [HST2.out]; exact if_pos her)
        go_upto_region 9 with fail
        generalize hW8 : w7.alloc (.cells (crow c' A6 c'.srv.length d6 A7 c'.pts.length d7) 45) = w8 at HB8 HN8 HT8 HI8 HJ8 z0 z1 z2 z3 y0 y1 y2 y3 tf ⊢
        have HO8 := Lib.hid HOK.out
        have tf0 := tf 0
        have tf1 := tf 1
        have tf2 := tf 2
        have tf3 := tf 3
        obtain ⟨r1, r2⟩ := store4 HT8.out (.int .i64 c'.e) (.slice A6 c'.srv.length d6) (.slice A7 c'.pts.length d7) (.int .i64 c'.t)
        have hxN' := (r2.block _ (lt_of HN8.out) (fun e => by injection e with e; omega)).trans HN8.out
        have hic' := HJ8.out.stored HT8.out HFW2.out r2.size (fun q g1 g2 => r2.block q g1 (fun e => g2 (by injection e)))
        have hB10 := HB8.out.grown r2 HB8.out.size (fun q hq => by cases hq; omega)
        have R1 := Lib.hid r1
        have RN := Lib.hid hxN'
        have RI := Lib.hid hic'
        have RB := Lib.hid hB10
        clear r1 r2 hxN' hic' hB10 HN8 HT8 HI8 HJ8 HB8 her tf hW8
        go_wp2_with fail
        go_roundw
        case rel => exact ⟨k + 1, A6, _, d6, A7, _, d7, by omega, by go_num, RB.out, RN.out, by rw [HC.out]; exact R1.out, by rw [HC.out]; exact RI.out⟩
        case measure => simp only [intOf]; omega
      · have q2 : (er == 0) = false := by simpa using her
        have HC := Lib.hid (show repN tx (k + 1) = c by rw [HST2.out]; exact if_neg her)
        clear her z0 z1 z2 z3 y0 y1 y2 y3 tf
        go_wp2_with fail
        go_roundw
        case rel => exact ⟨k + 1, A1, n1, c1, A2, n2, c2, by omega, by go_num, HB8.out, HN8.out, by rw [HC.out]; exact HT8.out, by rw [HC.out]; exact HI8.out⟩
        case measure => simp only [intOf]; omega
    · obtain rfl : k = n := by omega
      have d1 : decide ((k : Int) < (k : Int)) = false := decide_eq_false (by omega)
      have t0 := cell_of_row _ _ 0 _ _ _ hxN
      have t1 := cell_of_row _ _ 1 _ _ _ hxN
      have t2 := cell_of_row _ _ 2 _ _ _ hxN
      have t3 := cell_of_row _ _ 3 _ _ _ hxN
      have tf : ∀ j, wr.frozen? ⟨w.heap.size, j, none⟩ = false := fun j => by unfold World.frozen?; simp only [hxN]; simp
      have tf0 := tf 0
      have tf1 := tf 1
      have tf2 := tf 2
      have tf3 := tf 3
      obtain ⟨r1, r2⟩ := store4 hxN (.int .i64 (repN tx k).e) (.slice A1 n1 c1) (.slice A2 n2 c2) (.int .i64 (repN tx k).t)
      have hicf := hic.stored hxN (.inr hkf.1.2.1) r2.size (fun q g1 g2 => r2.block q g1 (fun e => g2 (by injection e)))
      have hbf := hb.grown r2 hb.size (fun q hq => by cases hq; exact Nat.le_refl _)
      have R1 := Lib.hid r1
      have RI := Lib.hid hicf
      have RB := Lib.hid hbf
      clear HIC HXT HXN HBr hic hxT hxN r1 r2 hicf hbf tf hb hkf
      go_wp2_with fail
      refine bodyPost_ret (results_cell_row rfl _ _ w.heap.size 45 (crow (repN tx k) A1 n1 c1 A2 n2 c2) (0, 0) _ rfl R1.out Tryz.underlying45 rfl (by kernel_rfl)) rfl ?_
      exact ⟨_, rfl, RI.out, RB.out⟩
end Go.Proofs.YthjinpbclfankaaGreatDoor
namespace Go.Proofs.YthjinpbclfankaaGreatDoor
open Go.RowKit

set_option maxRecDepth 100000 in
set_option maxHeartbeats 40000000 in
theorem rrep_any {w : World} {A : Option Addr} {n cap : Nat} {tx : Nat → ByteArray} (hS : Strs w A n tx) (hn : n ≤ 60) (hx : ∀ i, i < n → (tx i).size ≤ 1024) :
    Calls Tryz.prog 12 #[.slice A n cap] w fun e w' => ∃ v', e = .returned v' ∧ IC w' v' (repN tx n) ∧ Below w.heap.size w w' := by
  have hb1 : Below w.heap.size w (w.alloc (.cells #[.int .i64 0, .slice none 0 0, .slice none 0 0, .int .i64 0] 41)) := (Below.refl _ _).alloc (Nat.le_refl _) _
  have hx0 := heap_alloc_new w (.cells #[.int .i64 0, .slice none 0 0, .slice none 0 0, .int .i64 0] 41)
  have HS := Lib.hid (fun (W : World) (hW : Below w.heap.size w W) => hS.below hW)
  have HSZ := Lib.hid hx
  have HB1 := Lib.hid hb1
  have HX0 := Lib.hid hx0
  clear hb1 hx0 hS hx
  go_enter Tryz.func12, Tryz.ntmps12
  go_wp2_with fail
  go_at_call 28
  refine (rnew12_any _).mono ?_
  rintro e w2 ⟨v, rfl, hic, hb2⟩
  have hNT : w.heap.size < w2.heap.size := by have := hb2.size; simp at this; omega
  have hxN := (hb2.block w.heap.size (by simp)).trans HX0.out
  have hB2 := HB1.out.trans (hb2.mono HB1.out.size)
  have hic' := hic
  obtain ⟨sv, pv, rfl, ⟨A1, c1, rfl, -⟩, ⟨A2, c2, rfl, -⟩⟩ := hic'
  have hic3 := hic.below ((Below.refl _ _).alloc (Nat.le_refl _) (.cells (crow cf0 A1 cf0.srv.length c1 A2 cf0.pts.length c2) 41))
  have hB3 := hB2.alloc hB2.size (.cells (crow cf0 A1 cf0.srv.length c1 A2 cf0.pts.length c2) 41)
  have hxN3 : (w2.alloc (.cells (crow cf0 A1 cf0.srv.length c1 A2 cf0.pts.length c2) 41)).heap[w.heap.size]? = _ := (heap_alloc_old _ _ hNT).trans hxN
  have hxT3 := heap_alloc_new w2 (.cells (crow cf0 A1 cf0.srv.length c1 A2 cf0.pts.length c2) 41)
  clear hic hb2 hxN hB2 HB1 HX0
  have HIC := Lib.hid hic3
  have HB := Lib.hid hB3
  have HXN := Lib.hid hxN3
  have HXT := Lib.hid hxT3
  clear hic3 hB3 hxN3 hxT3
  go_wp2_with fail
  go_loopw [4] (fun iv wr => ∃ (k : Nat) (A1 : Option Addr) (n1 c1 : Nat) (A2 : Option Addr) (n2 c2 : Nat), k ≤ n ∧ iv = .int .i64 k ∧ Below w.heap.size w wr ∧ wr.heap[w.heap.size]? = some (.cells #[.int .i64 0, .slice none 0 0, .slice none 0 0, .int .i64 0] 41 (0, 0)) ∧ wr.heap[w2.heap.size]? = some (.cells (crow (repN tx k) A1 n1 c1 A2 n2 c2) 41 (0, 0)) ∧ IC wr (.agg (crow (repN tx k) A1 n1 c1 A2 n2 c2)) (repN tx k)) (fun iv _ => n - (intOf iv).toNat)
  case atStart => exact ⟨0, _, _, _, _, _, _, Nat.zero_le _, rfl, HB.out, HXN.out, HXT.out, HIC.out⟩
  case round =>
    obtain ⟨k, A1, n1, c1, A2, n2, c2, hk, rfl, hb, hxN, hxT, hic⟩ := hrel
    have hkf := repN_ok tx k
    have HBr := Lib.hid hb
    have HXN := Lib.hid hxN
    have HXT := Lib.hid hxT
    have HIC := Lib.hid hic
    have y0 := cell_of_row _ _ 0 _ _ _ hxT
    have y1 := cell_of_row _ _ 1 _ _ _ hxT
    have y2 := cell_of_row _ _ 2 _ _ _ hxT
    have y3 := cell_of_row _ _ 3 _ _ _ hxT
    have hTl : w2.heap.size < wr.heap.size := lt_of hxT
    by_cases hlt : k < n
    · obtain ⟨g, o, rfl, hg, hcl, -⟩ := HS.out _ hb k hlt
      have hsz := HSZ.out k hlt
      have hst : repN tx (k + 1) = rstp (repN tx k) (tx k) := rfl
      unfold rstp stp at hst
      have HDE := Lib.hid (fun W : World => rdec_any (tx k) W)
      generalize tx k = s at hcl hst HDE
      have HAp := Lib.hid (fun (x : Od) (W : World) (u : Value) (h : IC W u (repN tx k)) => rapply_any h (by have := hkf.1.few; omega) (by have := hkf.1.few; omega) x)
      have HOK := Lib.hid hkf.1
      have HFW := Lib.hid (fun x => apl_two hkf.1 x)
      generalize repN tx k = c at hxN hxT hic hkf HBr HXN HXT HIC y0 y1 y2 y3 hst HAp HOK HFW
      generalize decO s = r at hst HDE
      obtain ⟨⟨xk, xn, xm, xf, xt⟩, e1⟩ := r
      have HST := Lib.hid hst
      have d1 : decide ((k : Int) < (n : Int)) = true := decide_eq_true (by omega)
      have hkI : (0 : Int) ≤ (k : Int) := by omega
      have hlI : (k : Int) < (n : Int) := by omega
      clear hxN hxT hic hst hkf hb
      go_wp2_with fail
      go_at_call 6
      refine (HDE.out _).mono ?_
      rintro e w5 ⟨rfl, hb5⟩
      have hal := (Below.refl w5.heap.size w5).alloc (Nat.le_refl _) (.cells #[.int .i64 xk, .int .i64 xn, .int .i64 xm, .int .i64 xf, .int .i64 xt] 31)
      have hb6 := hb5.trans (hal.mono hb5.size)
      have ho6 := heap_alloc_new w5 (.cells #[.int .i64 xk, .int .i64 xn, .int .i64 xm, .int .i64 xf, .int .i64 xt] 31)
      have HB6 := Lib.hid (HBr.out.trans (hb6.mono HBr.out.size))
      have HN6 := Lib.hid ((hb6.block _ (Nat.lt_trans hNT hTl)).trans HXN.out)
      have HT6 := Lib.hid ((hb6.block _ hTl).trans HXT.out)
      have HI6 := Lib.hid (HIC.out.below hb6)
      clear hb5 hal hb6 HBr HXN HXT HIC y0 y1 y2 y3 hcl
      by_cases he1 : e1 = 0
      case neg =>
        have q1 : (e1 != 0) = true := by simpa using he1
        have HC := Lib.hid (show repN tx (k + 1) = c by rw [HST.out]; exact if_neg he1)
        clear he1 ho6
        go_wp2_with fail
        go_roundw
        case rel => exact ⟨k + 1, A1, n1, c1, A2, n2, c2, by omega, by go_num, HB6.out, HN6.out, by rw [HC.out]; exact HT6.out, by rw [HC.out]; exact HI6.out⟩
        case measure => simp only [intOf]; omega
      case pos =>
      have q1 : (e1 != 0) = false := by simpa using he1
      have HST2 := Lib.hid (show repN tx (k + 1) = if (apl c ⟨xk, xn, xm, xf, xt⟩).2 = 0 then (apl c ⟨xk, xn, xm, xf, xt⟩).1 else c by rw [HST.out]; exact if_pos he1)
      have HFW2 := Lib.hid (HFW.out ⟨xk, xn, xm, xf, xt⟩)
      clear he1 HST HFW
      have HAp2 := Lib.hid (fun W u h => HAp.out ⟨xk, xn, xm, xf, xt⟩ W u h)
      generalize apl c ⟨xk, xn, xm, xf, xt⟩ = r at HST2 HAp2 HFW2
      obtain ⟨c', er⟩ := r
      have o0 := cell_of_row _ _ 0 _ _ _ ho6
      have o1 := cell_of_row _ _ 1 _ _ _ ho6
      have o2 := cell_of_row _ _ 2 _ _ _ ho6
      have o3 := cell_of_row _ _ 3 _ _ _ ho6
      have o4 := cell_of_row _ _ 4 _ _ _ ho6
      have y0 := cell_of_row _ _ 0 _ _ _ HT6.out
      have y1 := cell_of_row _ _ 1 _ _ _ HT6.out
      have y2 := cell_of_row _ _ 2 _ _ _ HT6.out
      have y3 := cell_of_row _ _ 3 _ _ _ HT6.out
      clear ho6
      go_wp2_with fail
      go_at_call 29
      refine (HAp2.out _ _ HI6.out).mono ?_
      rintro e w7 ⟨v7, rfl, hic7, hb7, -⟩
      have hic7' := hic7
      obtain ⟨sv7, pv7, rfl, ⟨A6, d6, rfl, -⟩, ⟨A7, d7, rfl, -⟩⟩ := hic7'
      have hal := (Below.refl w7.heap.size w7).alloc (Nat.le_refl _) (.cells (crow c' A6 c'.srv.length d6 A7 c'.pts.length d7) 41)
      have hb8 := hb7.trans (hal.mono hb7.size)
      have HB8 := Lib.hid (HB6.out.trans (hb8.mono HB6.out.size))
      have HN8 := Lib.hid ((hb8.block _ (lt_of HN6.out)).trans HN6.out)
      have HT8 := Lib.hid ((hb8.block _ (lt_of HT6.out)).trans HT6.out)
      have HI8 := Lib.hid (HI6.out.below hb8)
      have HJ8 := Lib.hid (hic7.below hal)
      have ho8 := heap_alloc_new w7 (.cells (crow c' A6 c'.srv.length d6 A7 c'.pts.length d7) 41)
      have z0 := cell_of_row _ _ 0 _ _ _ ho8
      have z1 := cell_of_row _ _ 1 _ _ _ ho8
      have z2 := cell_of_row _ _ 2 _ _ _ ho8
      have z3 := cell_of_row _ _ 3 _ _ _ ho8
      clear HB6 HN6 HT6 HI6 o0 o1 o2 o3 o4 y0 y1 y2 y3 ho8 hb7 hb8 hal hic7
      have y0 := cell_of_row _ _ 0 _ _ _ HT8.out
      have y1 := cell_of_row _ _ 1 _ _ _ HT8.out
      have y2 := cell_of_row _ _ 2 _ _ _ HT8.out
      have y3 := cell_of_row _ _ 3 _ _ _ HT8.out
      have tf : ∀ j, (w7.alloc (.cells (crow c' A6 c'.srv.length d6 A7 c'.pts.length d7) 41)).frozen? ⟨w2.heap.size, j, none⟩ = false := fun j => by unfold World.frozen?; simp only [HT8.out]; simp
      by_cases her : er = 0
      · have q2 : (er == 0) = true := by simpa using her
        have HC := Lib.hid (show repN tx (k + 1) = c' by rw [HST2.out]; exact if_pos her)
        go_upto_region 9 with fail
        generalize hW8 : w7.alloc (.cells (crow c' A6 c'.srv.length d6 A7 c'.pts.length d7) 41) = w8 at HB8 HN8 HT8 HI8 HJ8 z0 z1 z2 z3 y0 y1 y2 y3 tf ⊢
        have HO8 := Lib.hid HOK.out
        have tf0 := tf 0
        have tf1 := tf 1
        have tf2 := tf 2
        have tf3 := tf 3
        obtain ⟨r1, r2⟩ := store4 HT8.out (.int .i64 c'.e) (.slice A6 c'.srv.length d6) (.slice A7 c'.pts.length d7) (.int .i64 c'.t)
        have hxN' := (r2.block _ (lt_of HN8.out) (fun e => by injection e with e; omega)).trans HN8.out
        have hic' := HJ8.out.stored HT8.out HFW2.out r2.size (fun q g1 g2 => r2.block q g1 (fun e => g2 (by injection e)))
        have hB10 := HB8.out.grown r2 HB8.out.size (fun q hq => by cases hq; omega)
        have R1 := Lib.hid r1
        have RN := Lib.hid hxN'
        have RI := Lib.hid hic'
        have RB := Lib.hid hB10
        clear r1 r2 hxN' hic' hB10 HN8 HT8 HI8 HJ8 HB8 her tf hW8
        go_wp2_with fail
        go_roundw
        case rel => exact ⟨k + 1, A6, _, d6, A7, _, d7, by omega, by go_num, RB.out, RN.out, by rw [HC.out]; exact R1.out, by rw [HC.out]; exact RI.out⟩
        case measure => simp only [intOf]; omega
      · have q2 : (er == 0) = false := by simpa using her
        have HC := Lib.hid (show repN tx (k + 1) = c by rw [HST2.out]; exact if_neg her)
        clear her z0 z1 z2 z3 y0 y1 y2 y3 tf
        go_wp2_with fail
        go_roundw
        case rel => exact ⟨k + 1, A1, n1, c1, A2, n2, c2, by omega, by go_num, HB8.out, HN8.out, by rw [HC.out]; exact HT8.out, by rw [HC.out]; exact HI8.out⟩
        case measure => simp only [intOf]; omega
    · obtain rfl : k = n := by omega
      have d1 : decide ((k : Int) < (k : Int)) = false := decide_eq_false (by omega)
      have t0 := cell_of_row _ _ 0 _ _ _ hxN
      have t1 := cell_of_row _ _ 1 _ _ _ hxN
      have t2 := cell_of_row _ _ 2 _ _ _ hxN
      have t3 := cell_of_row _ _ 3 _ _ _ hxN
      have tf : ∀ j, wr.frozen? ⟨w.heap.size, j, none⟩ = false := fun j => by unfold World.frozen?; simp only [hxN]; simp
      have tf0 := tf 0
      have tf1 := tf 1
      have tf2 := tf 2
      have tf3 := tf 3
      obtain ⟨r1, r2⟩ := store4 hxN (.int .i64 (repN tx k).e) (.slice A1 n1 c1) (.slice A2 n2 c2) (.int .i64 (repN tx k).t)
      have hicf := hic.stored hxN (.inr hkf.1.2.1) r2.size (fun q g1 g2 => r2.block q g1 (fun e => g2 (by injection e)))
      have hbf := hb.grown r2 hb.size (fun q hq => by cases hq; exact Nat.le_refl _)
      have R1 := Lib.hid r1
      have RI := Lib.hid hicf
      have RB := Lib.hid hbf
      clear HIC HXT HXN HBr hic hxT hxN r1 r2 hicf hbf tf hb hkf
      go_wp2_with fail
      refine bodyPost_ret (results_cell_row rfl _ _ w.heap.size 41 (crow (repN tx k) A1 n1 c1 A2 n2 c2) (0, 0) _ rfl R1.out Tryz.underlying41 rfl (by kernel_rfl)) rfl ?_
      exact ⟨_, rfl, RI.out, RB.out⟩
end Go.Proofs.YthjinpbclfankaaGreatDoor
