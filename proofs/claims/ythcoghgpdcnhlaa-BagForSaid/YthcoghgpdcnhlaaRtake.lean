/-
  The document's own has, without, Take, Drop, Twice and Late of layer 4 (weirkeepref04), by contracts.
-/
import Derived.Test.YthcoghgpdcnhlaaRsend
namespace Go.Proofs.Ythcoghgpdcnhlaa
open Go.RowKit

theorem rhas_yes (b : Nat) (row : Option Nat) (l : List M) (i : Int) (w : World) (hB : Bg w b row l) (hi : has l i) :
    Calls Try.prog 41 #[.pointer (some ⟨b, 0, none⟩), .int .i64 i] w fun e w' => e = .returned (.bool true) ∧ w = w' := by
  obtain ⟨s, hs, -, ho, -⟩ := hB
  obtain ⟨A, cap, rfl, -⟩ := ho.look
  have h1 := hi.1
  have h2 := hi.2
  clear ho hi
  go_enter Try.func41, Try.ntmps41
  go_wp2
  go_ret
  exact ⟨rfl, rfl⟩
theorem rhas_no (b : Nat) (row : Option Nat) (l : List M) (i : Int) (w : World) (hB : Bg w b row l) (hi : ¬ has l i) :
    Calls Try.prog 41 #[.pointer (some ⟨b, 0, none⟩), .int .i64 i] w fun e w' => e = .returned (.bool false) ∧ w = w' := by
  obtain ⟨s, hs, -, ho, -⟩ := hB
  obtain ⟨A, cap, rfl, -⟩ := ho.look
  have hi' := not_has hi
  clear ho hi
  by_cases h0 : i < 0
  · have h1 : ¬ (0 ≤ i) := by omega
    go_enter Try.func41, Try.ntmps41
    go_wp2
    go_ret
    exact ⟨rfl, rfl⟩
  · have h1 : 0 ≤ i := by omega
    have h2 : ¬ (i < (l.length : Int)) := by omega
    clear hi' h0
    go_enter Try.func41, Try.ntmps41
    go_wp2
    go_ret
    exact ⟨rfl, rfl⟩

theorem news_take {l : List M} {i j : Nat} {u : Value} (h : (flat (l.take i))[j]? = some u) : (flat l)[j]? = some u := by
  rw [← flat_take, List.getElem?_take] at h
  split at h
  · exact h
  · simp at h
theorem news_drop {l : List M} {i j : Nat} {u : Value} (h : (flat (l.drop i))[j]? = some u) : (flat l)[i * 8 + j]? = some u := by
  rw [← flat_drop, List.getElem?_drop] at h
  exact h

set_option maxRecDepth 100000 in
set_option maxHeartbeats 2000000 in
theorem without_any (b : Nat) (row : Option Nat) (l : List M) (i : Nat) (w : World) (hB : Bg w b row l) (hi : i < l.length) (hl : l.length ≤ 900) :
    Calls Try.prog 42 #[.pointer (some ⟨b, 0, none⟩), .int .i64 i] w fun e w' => ∃ v, e = .returned v ∧ Owns w' w.heap.size v (rest l i) ∧ Below w.heap.size w w' := by
  obtain ⟨i0, hi0, hz0, hz1', hz2⟩ := info_parts infoMsg
  have hbl := hB.lt
  obtain ⟨s, hs, -, ho, -⟩ := hB
  rcases ho.form with ⟨rfl, rfl⟩ | ⟨g, cap, rfl, -, hgl, hlc, hcm, -⟩
  · simp at hi
  have hbE : Below w.heap.size w (w.alloc (.cells #[] 31)) := (Below.refl _ _).alloc (Nat.le_refl _) _
  have HE := Lib.hid (World.ownsRow_lit (base := w.heap.size) (e := 31) (size := 8) w #[] 0 (Nat.le_refl _) (by simp) rfl)
  have HN1 := Lib.hid (fun j u (h : (flat (l.take i))[j]? = some u) => (ho.below hbE).news j u (news_take h))
  have HBE := Lib.hid hbE
  have HO := Lib.hid ho
  have HS := Lib.hid hs
  have hiI : (i : Int) < (l.length : Int) := by omega
  have hcI : (i : Int) + 1 ≤ (cap : Int) := by omega
  have hcJ : (cap : Int) ≤ 9223372036854775807 := by unfold maxLen at hcm; omega
  have hlI : (l.length : Int) ≤ (cap : Int) := by omega
  have hiJ : (i : Int) ≤ (cap : Int) := by omega
  have h0I : (0 : Int) ≤ (i : Int) := by omega
  have hkI : (i : Int) + 1 ≤ (l.length : Int) := by omega
  have hnI : (0 : Int) ≤ (i : Int) + 1 := by omega
  clear ho hbE
  go_enter Try.func42, Try.ntmps42
  go_upto_region 3 with (at_builtin; refine wpList_append_own _ rfl (.tmp 7) (.tmp 13) 27 rfl w.heap.size 31 i0 _ 8 72 Try.underlying27 hi0 hz0 hz1' hz2 rfl (by decide) (.slice (some ⟨w.heap.size, 0, none⟩) 0 0) 0 [] rfl HE.out ⟨g, 0, none⟩ i cap (flat (l.take i)) rfl (by rw [flat_length, List.length_take]; omega) HN1.out (flat_oneCell _) (by unfold maxLen; omega) (by omega) (by simp) ?_; intro v w2 hown2 hgrow _)
  have hb2 : Below w.heap.size w w2 := HBE.out.grown hgrow (by simp) (fun k hk => by simp [Value.ownBlock] at hk; omega)
  have x1 := (hb2.cell (p := ⟨b, 0, none⟩) hbl).trans HS.out
  have HO2 := Lib.hid (show Owns w2 w.heap.size v (l.take i) from by
    have : i = (l.take i).length := by rw [List.length_take]; omega
    unfold Owns; rw [← this]; simpa using hown2)
  have HN2 := Lib.hid (fun j u (h : (flat (l.drop (i + 1)))[j]? = some u) => (HO.out.below hb2).news _ u (news_drop h))
  have HB2 := Lib.hid hb2
  have hz := hb2.size
  clear hown2 hgrow hb2
  by_cases hce : i + 1 < cap
  · have hceI : (i : Int) + 1 < (cap : Int) := by omega
    have HN3 := Lib.hid (show ∀ j u, (flat (l.drop (i + 1)))[j]? = some u → w2.cell? ((⟨g, (i + 1) * 8, none⟩ : Addr).add j) = some u from fun j u h => by
      have := HN2.out j u h
      rw [Go.WideShapes.add_plain] at this ⊢
      rw [Nat.zero_add] at this; exact this)
    go_wp2_with (at_builtin; refine wpList_append_own _ rfl (.tmp 15) (.tmp 22) 27 rfl w.heap.size 31 i0 _ 8 72 Try.underlying27 hi0 hz0 hz1' hz2 rfl (by decide) v (l.take i).length (flat (l.take i)) rfl HO2.out ⟨g, (i + 1) * 8, none⟩ (l.length - (i + 1)) (cap - (i + 1)) (flat (l.drop (i + 1))) rfl (by rw [flat_length, List.length_drop]) HN3.out (flat_oneCell _) (by rw [List.length_take]; unfold maxLen; omega) (by rw [List.length_take]; omega) (by omega) ?_; intro v3 w3 hown3 hgrow3 _)
    go_ret
    refine ⟨_, rfl, ?_, HB2.out.grown hgrow3 (by omega) (fun k hk => (HO2.out.lt hk).1)⟩
    unfold Owns rest
    rw [flat_append, List.length_append, List.length_drop]
    exact hown3
  · have HL := Lib.hid (show l.length = i + 1 ∧ cap = i + 1 by omega)
    have HE2 := Lib.hid (show rest l i = l.take i by unfold rest; rw [List.drop_of_length_le (by omega), List.append_nil])
    go_wp2_with (at_builtin; refine wpList_append_own _ rfl (.tmp 15) (.tmp 22) 27 rfl w.heap.size 31 i0 _ 8 72 Try.underlying27 hi0 hz0 hz1' hz2 rfl (by decide) v (l.take i).length (flat (l.take i)) rfl HO2.out ⟨g, 0, none⟩ (l.length - (i + 1)) (cap - (i + 1)) [] rfl (by have := HL.out.1; simp; omega) (fun j u h => by simp at h) (fun u h => by simp at h) (by rw [List.length_take]; unfold maxLen; omega) (by rw [List.length_take]; omega) (by omega) ?_; intro v3 w3 hown3 hgrow3 _)
    go_ret
    refine ⟨_, rfl, ?_, HB2.out.grown hgrow3 (by omega) (fun k hk => (HO2.out.lt hk).1)⟩
    rw [HE2.out]
    unfold Owns
    have : l.length - (i + 1) = 0 := by have := HL.out.1; omega
    rw [this] at hown3
    simpa using hown3

/-- Where a place is asked of the document's own. -/
theorem rat_cell {w : World} {b : Nat} {row : Option Nat} {l : List M} {i : Nat} {m : M} (hB : Bg w b row l) (hi : l[i]? = some m) : ∃ g cap, w.cell? ⟨b, 0, none⟩ = some (.slice (some ⟨g, 0, none⟩) l.length cap) ∧ g < w.heap.size ∧ At w g (i * 8) m := by
  obtain ⟨s, hs, -, ho, -⟩ := hB
  obtain ⟨A, cap, rfl, hat⟩ := ho.look
  obtain ⟨g, rfl, hgl, h⟩ := hat i m hi
  exact ⟨g, cap, hs, hgl, h⟩

set_option maxRecDepth 100000 in
set_option maxHeartbeats 2000000 in
theorem rtake_no (b : Nat) (row : Option Nat) (l : List M) (i : Int) (w : World) (hB : Bg w b row l) (hi : ¬ has l i) :
    Calls Try.prog 29 #[.pointer (some ⟨b, 0, none⟩), .int .i64 i] w fun e w' => e = .returned (.tuple #[M.zero.val, .int .i64 3]) ∧ ∃ row', Bg w' b row' l ∧ RowOk row row' w ∧ Fr b row w w' := by
  have hb0 : Below w.heap.size w (w.alloc (.cells M.zero.cells 31)) := (Below.refl _ _).alloc (Nat.le_refl _) _
  have HB := Lib.hid (hB.below hb0)
  have HB0 := Lib.hid hb0
  clear hb0 hB
  go_enter Try.func29, Try.ntmps29
  go_wp2_with fail
  go_at_call 41
  refine (rhas_no _ _ l i _ HB.out hi).mono ?_
  rintro e w1 ⟨rfl, rfl⟩
  go_wp2
  go_returns
  exact ⟨rfl, row, HB.out, .inl rfl, Fr.of_below HB0.out⟩

set_option maxRecDepth 100000 in
set_option maxHeartbeats 2000000 in
theorem rtake_yes (b : Nat) (row : Option Nat) (l : List M) (i : Nat) (m : M) (w : World) (hB : Bg w b row l) (hi : l[i]? = some m) (hl : l.length ≤ 900) :
    Calls Try.prog 29 #[.pointer (some ⟨b, 0, none⟩), .int .i64 i] w fun e w' => e = .returned (.tuple #[m.val, .int .i64 0]) ∧ ∃ row', Bg w' b row' (rest l i) ∧ RowOk row row' w ∧ Fr b row w w' := by
  have hil : i < l.length := (List.getElem?_eq_some_iff.1 hi).1
  have hbl := hB.lt
  have hb0 : Below w.heap.size w (w.alloc (.cells M.zero.cells 31)) := (Below.refl _ _).alloc (Nat.le_refl _) _
  have HBw := Lib.hid hB
  have HB := Lib.hid (hB.below hb0)
  have HR := Lib.hid (MB.fresh w M.zero)
  have hz0 : (w.alloc (.cells M.zero.cells 31)).heap.size = w.heap.size + 1 := by simp
  obtain ⟨g, cap, hs, hgl, c0, c1, c2, c3, c4, c5, c6, c7⟩ := rat_cell HB.out hi
  have hiI : (i : Int) < (l.length : Int) := by omega
  have h0I : (0 : Int) ≤ (i : Int) := by omega
  have hhas : has l (i : Int) := ⟨h0I, hiI⟩
  clear hB
  go_enter Try.func29, Try.ntmps29
  go_wp2_with fail
  go_at_call 41
  refine (rhas_yes _ _ l i _ HB.out hhas).mono ?_
  rintro e w1 ⟨rfl, rfl⟩
  generalize w.alloc (.cells M.zero.cells 31) = w0 at hb0 HB HR hz0 hs hgl c0 c1 c2 c3 c4 c5 c6 c7 ⊢
  have hb1 : Below w0.heap.size w0 (w0.alloc (.cells m.cells 31)) := (Below.refl _ _).alloc (Nat.le_refl _) _
  have HB1 := Lib.hid (HB.out.below hb1)
  have HR1 := Lib.hid (HR.out.below hb1)
  have HX1 := Lib.hid (show MB (w0.alloc (.cells m.cells 31)) (w.heap.size + 1) m from hz0 ▸ MB.fresh w0 m)
  have HW1 := Lib.hid (hb0.trans (hb1.mono (by omega)))
  have hz1 : (w0.alloc (.cells m.cells 31)).heap.size = w0.heap.size + 1 := by simp
  clear hb1 hb0
  go_wp2_with fail
  go_at_call 42
  refine (without_any _ _ l i _ HB1.out hil hl).mono ?_
  rintro e w2 ⟨v, rfl, ho2, hb2⟩
  generalize w0.alloc (.cells m.cells 31) = w1 at HB1 HR1 HX1 HW1 hz1 ho2 hb2 ⊢
  have HO2 := Lib.hid ho2
  have HB2 := Lib.hid hb2
  obtain ⟨y, hy, hyf, -, -⟩ := HB1.out.below hb2
  have hz2 := hb2.size
  have HR2 := Lib.hid (HR1.out.below hb2)
  have HX2 := Lib.hid (HX1.out.below hb2)
  have hvf : ∃ A n c, v = .slice A n c := by
    obtain ⟨A, c, h, -⟩ := ho2.look
    exact ⟨A, _, c, h⟩
  obtain ⟨vA, vn, vc, rfl⟩ := hvf
  clear ho2 hb2 c0 c1 c2 c3 c4 c5 c6 c7
  go_upto_region 5 with fail
  obtain ⟨f1, f2, f3⟩ := Bg.anew HB1.out (Below.refl _ _) HB2.out HO2.out (Nat.le_refl _)
  have fX := HX2.out.fr ((Fr.refl b none w2).set (v := .slice vA vn vc)) (by omega) (by simp)
  have fR := HR2.out.fr ((Fr.refl b none w2).set (v := .slice vA vn vc)) (by omega) (by simp)
  have fz : (w2.setCell ⟨b, 0, none⟩ (.slice vA vn vc)).heap.size = w2.heap.size := by simp [World.setCell]
  generalize w2.setCell ⟨b, 0, none⟩ (.slice vA vn vc) = w3 at f1 f3 fX fR fz ⊢
  have F := Lib.hid (And.intro f1 (And.intro f2 f3))
  have FR := Lib.hid fR
  obtain ⟨x0, x1, x2, x3, x4, x5, x6, x7⟩ := fX.mat.all
  clear f1 f2 f3 fX fR
  go_wp2_with (with_reducible show wpList _ _ _ (Oper.mk none (Op.store 31 (.tmp 4) _) _ _ _ _ :: _) _ _; refine wpList_store_msg rfl (.tmp 4) (.tmp 25) rfl w.heap.size m M.zero rfl rfl FR.out ?_; intro wF hMF hFF hzF; (obtain ⟨k0, k1, k2, k3, k4, k5, k6, k7⟩ := hMF.mat.all); have HFF := Lib.hid hFF; clear hMF hFF hzF)
  have hfr := F.out.2.2.after HW1.out
  refine bodyPost_ret (v := .tuple #[m.val, .int .i64 0]) (by simp [results, Try.results29, go_sem, k0, k1, k2, k3, k4, k5, k6, k7]) rfl ⟨rfl, _, ?_, F.out.2.1.after HW1.out, ?_⟩
  · refine F.out.1.fr HFF.out (by omega) (by simp) (fun g hg => ⟨?_, by simp⟩)
    rcases F.out.2.1 with h | h | ⟨g', h, hg'⟩
    · have := (HBw.out.row_lt (h ▸ hg)).2; omega
    · rw [h] at hg; simp at hg
    · rw [h] at hg; injection hg with hg; omega
  · exact ⟨HFF.out.os.trans hfr.os, HFF.out.tape.trans hfr.tape, HFF.out.output.trans hfr.output, Nat.le_trans hfr.size HFF.out.size, fun k hk h1 h2 => (HFF.out.block k (by omega) (by omega) (by simp)).trans (hfr.block k hk h1 h2)⟩
end Go.Proofs.Ythcoghgpdcnhlaa
