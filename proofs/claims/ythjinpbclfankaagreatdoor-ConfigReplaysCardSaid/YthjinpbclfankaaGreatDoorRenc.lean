/-
  Encode (the document's own), by a contract: an order's bytes, or its error.
-/
import Derived.Test.YthjinpbclfankaaGreatDoorPenc
import Derived.Test.YthjinpbclfankaaGreatDoorRefText
import Derived.Test.YthjinpbclfankaaGreatDoorPc7
import Derived.Test.YthjinpbclfankaaGreatDoorThe
namespace Go.Proofs.YthjinpbclfankaaGreatDoor
open Go.RowKit

theorem fr_of_below {b : Nat} {row : Option Nat} {w w' : World} (hb : Below w.heap.size w w') : Fr b row w w' := ⟨hb.os, hb.tape, hb.output, hb.size, fun k hk _ _ => hb.block k hk⟩
theorem rnum12 (p : Nat) (row : Option Nat) (bs : List Int) (n k : Int) (w : World) (hk : k = 1 ∨ k = 2) (h1 : n ≤ 9223372036854775807) (hW : Wrt w p row bs) (hl : bs.length ≤ 1000) :
    Calls Tryz.prog 24 #[.pointer (some ⟨p, 0, none⟩), .int .i64 n, .int .i64 k] w fun e w' => ∃ A m c es at_ row' bs', e = .returned (.agg #[.slice A m c, .int .i64 at_]) ∧ RF w' A m c es ∧ m ≤ 1000 ∧ Wrt w' p row' bs' ∧ bs'.length ≤ bs.length + 2 ∧ RowOk row row' w ∧ Fr p row w w' ∧
      ((Fits n k ∧ es.headD 0 = 0 ∧ bs' = bs ++ leb n k.toNat) ∨ (¬ Fits n k ∧ es.headD 0 = 1)) := by
  by_cases hf : Fits n k
  · refine (refnum_ok p row bs n k w hf hW (by omega)).mono ?_
    rintro e w' ⟨rfl, row', hW', hR, hF⟩
    refine ⟨none, 0, 0, [], 0, row', _, rfl, RF.none_, by omega, hW', ?_, hR, hF, .inl ⟨hf, rfl, rfl⟩⟩
    rw [List.length_append, leb_len _ _ (by rcases hk with rfl | rfl <;> decide)]
    rcases hk with rfl | rfl <;> simp
  · refine (refnum_bad p row bs n k w hf h1 hW).mono ?_
    rintro e w' ⟨A, at_, rfl, hRF, hb⟩
    exact ⟨A, 1, 1, [1], at_, row, bs, rfl, hRF, by omega, hW.below hb, by omega, .inl rfl, fr_of_below hb, .inr ⟨hf, rfl⟩⟩
/-- What the writer has behind the first i numbers, and whether one had no room. -/
def Enc (o : Od) (i : Nat) (bad : Bool) (bs : List Int) : Prop := (bad = false → (∀ j, j < i → Fits (o.fld j) (wid5 j)) ∧ bs = o.pre i) ∧ (bad = true → ¬ o.fits)
theorem Enc.step {o : Od} {i : Nat} {bad : Bool} {bs bs' : List Int} {h : Int} (he : Enc o i bad bs) (hi : i < 5) (hor : (Fits (o.fld i) (wid5 i) ∧ h = 0 ∧ bs' = bs ++ leb (o.fld i) (wid5 i).toNat) ∨ (¬ Fits (o.fld i) (wid5 i) ∧ h = 1)) : Enc o (i + 1) ((h != 0) || bad) bs' := by
  rcases hor with ⟨hf, rfl, rfl⟩ | ⟨hf, rfl⟩
  · refine ⟨fun hb => ?_, fun hb => he.2 (by simpa using hb)⟩
    obtain ⟨h1, rfl⟩ := he.1 (by simpa using hb)
    refine ⟨fun j hj => ?_, rfl⟩
    rcases Nat.lt_succ_iff_lt_or_eq.1 hj with h | rfl
    · exact h1 j h
    · exact hf
  · exact ⟨fun hb => by simp at hb, fun _ h => hf (h i hi)⟩
set_option maxRecDepth 100000 in
set_option maxHeartbeats 4000000 in
theorem renc_any (o : Od) (w : World) (hm : ∀ i, i < 5 → o.fld i ≤ 9223372036854775807) :
    Calls Tryz.prog 8 #[o.val] w fun e w' => e = .returned (.tuple #[.string (encO o).1, .int .i64 (encO o).2]) ∧ Below w.heap.size w w' := by
  have h3 := three_new w (.cells o.cells 31) (.cells #[.slice none 0 0] 80) (.cells #[.int .i64 o.n, .int .i64 o.m, .int .i64 o.f, .int .i64 o.t] 3)
  have hb1 : Below w.heap.size w (w.alloc (.cells o.cells 31)) := (Below.refl _ _).alloc (Nat.le_refl _) _
  have hb2 := hb1.alloc hb1.size (.cells #[.slice none 0 0] 80)
  have hb3 := hb2.alloc hb2.size (.cells #[.int .i64 o.n, .int .i64 o.m, .int .i64 o.f, .int .i64 o.t] 3)
  have HB0 := Lib.hid hb3
  have HO0 := Lib.hid (show OB 31 _ w.heap.size o from h3.1)
  have HL0 := Lib.hid h3.2.2
  have hW0 : Wrt (((w.alloc (.cells o.cells 31)).alloc (.cells #[.slice none 0 0] 80)).alloc (.cells #[.int .i64 o.n, .int .i64 o.m, .int .i64 o.f, .int .i64 o.t] 3)) (w.heap.size + 1) none [] := by
    refine ⟨.slice none 0 0, cell_of_row _ _ 0 _ _ _ h3.2.1, ?_, World.ownsRow_nil _ _ _ _, rfl⟩
    unfold World.frozen?; simp only [h3.2.1]; simp
  have HW0 := Lib.hid hW0
  have HM := Lib.hid hm
  clear hm h3 hb1 hb2 hb3 hW0
  go_enter Tryz.func8, Tryz.ntmps8
  go_wp2_with fail
  generalize ((w.alloc (.cells #[.int .i64 o.k, .int .i64 o.n, .int .i64 o.m, .int .i64 o.f, .int .i64 o.t] 31)).alloc (.cells #[.slice none 0 0] 80)).alloc (.cells #[.int .i64 o.n, .int .i64 o.m, .int .i64 o.f, .int .i64 o.t] 3) = w3 at HB0 HO0 HL0 HW0 ⊢
  have hlL := lt_of HL0.out
  go_at_call 24
  refine (rnum12 _ none [] o.k 1 w3 (.inl rfl) (HM.out 0 (by omega)) HW0.out (by simp)).mono ?_
  rintro e w4 ⟨A, m, c, es, at_, row, bs, rfl, hRF, hm, hW, hlen, hR, hF, hor⟩
  have HL4 := Lib.hid ((hF.block _ hlL (by omega) (by simp)).trans HL0.out)
  have HB4 := Lib.hid (HB0.out.trans ((hF.below (Nat.le_of_lt HW0.out.lt) (fun g hg => by cases hg)).mono (by omega)))
  have hr4 : ∀ g, row = some g → w.heap.size + 1 + 1 < g := fun g hg => by
    rcases hR with h | ⟨g', h, hge⟩
    · rw [h] at hg; cases hg
    · rw [h] at hg; injection hg with hg; omega
  obtain ⟨hv, hhv⟩ : ∃ q, es.headD 0 = q := ⟨_, rfl⟩
  rw [hhv] at hor
  have he4 : Enc o 1 (hv != 0) bs := by
    have := Enc.step (o := o) (i := 0) (bad := false) (bs := []) (bs' := bs) (h := hv) ⟨fun _ => ⟨fun j hj => by omega, rfl⟩, fun h => by cases h⟩ (by omega) hor
    rwa [Bool.or_false] at this
  have HR4 := Lib.hid hr4
  have HE4 := Lib.hid he4
  have HW4 := Lib.hid hW
  have hlen4 : bs.length ≤ 2 := hlen
  have HCD := Lib.hid (show Calls Tryz.prog 25 #[.agg #[.slice A m c, .int .i64 at_]] w4 fun e w' => e = .returned (.int .i64 hv) ∧ Below w4.heap.size w4 w' by (have := rcode_any A m c es at_ w4 hRF hm; rw [hhv] at this; exact this))
  clear HB0 HO0 HL0 HW0 hRF hW hlen hR hF hor hr4 he4 hhv
  go_wp2_with fail
  go_at_call 25
  refine HCD.out.mono ?_
  rintro e w5 ⟨rfl, hb5⟩
  have HL5 := Lib.hid ((hb5.block _ (lt_of HL4.out)).trans HL4.out)
  have HB5 := Lib.hid (HB4.out.trans (hb5.mono HB4.out.size))
  have HW5 := Lib.hid (HW4.out.below hb5)
  clear HL4 HB4 HW4 HCD hb5 hm
  go_wp2_with fail
  generalize (hv != 0) = b0 at HE4 ⊢
  go_loopw [6, 7] (fun bv iv wr => ∃ (i : Nat) (b : Bool) (bs : List Int) (row : Option Nat), i ≤ 4 ∧ iv = .int .i64 i ∧ bv = .bool b ∧ Enc o (i + 1) b bs ∧ bs.length ≤ 2 * (i + 1) ∧ Wrt wr (w.heap.size + 1) row bs ∧ (∀ g, row = some g → w.heap.size + 1 + 1 < g) ∧ wr.heap[w.heap.size + 1 + 1]? = some (.cells #[.int .i64 o.n, .int .i64 o.m, .int .i64 o.f, .int .i64 o.t] 3 (0, 0)) ∧ Below w.heap.size w wr) (fun _ iv _ => 4 - (intOf iv).toNat)
  case atStart => exact ⟨0, b0, bs, row, by omega, rfl, rfl, HE4.out, by omega, HW5.out, HR4.out, HL5.out, HB5.out⟩
  case round =>
    obtain ⟨i, b, bs, row, hi, rfl, rfl, hE, hbl, hW, hrow, hL, hb⟩ := hrel
    clear HE4 HW5 HR4 HL5 HB5
    have hlr := lt_of hL
    by_cases hlt : i < 4
    · have hiI : (i : Int) < 4 := by omega
      have hi0 : (0 : Int) ≤ (i : Int) := by omega
      have hc : wr.cell? ⟨w.heap.size + 1 + 1, i, none⟩ = some (.int .i64 (o.fld (i + 1))) := by
        rcases (show i = 0 ∨ i = 1 ∨ i = 2 ∨ i = 3 by omega) with rfl | rfl | rfl | rfl
        · exact cell_of_row _ _ 0 _ _ _ hL
        · exact cell_of_row _ _ 1 _ _ _ hL
        · exact cell_of_row _ _ 2 _ _ _ hL
        · exact cell_of_row _ _ 3 _ _ _ hL
      have HE := Lib.hid hE
      have HW := Lib.hid hW
      have HR := Lib.hid hrow
      have HL := Lib.hid hL
      have HB := Lib.hid hb
      have HMI := Lib.hid (HM.out (i + 1) (by omega))
      clear hE hW hrow hL hb
      generalize hx : o.fld (i + 1) = x at hc HMI
      have HX := Lib.hid hx
      clear hx
      go_wp2_with fail
      go_at_call 24
      refine (rnum12 _ row bs x 2 wr (.inr rfl) HMI.out HW.out (by omega)).mono ?_
      rintro e w4 ⟨A, m, c, es, at_, row', bs', rfl, hRF, hm, hW, hlen, hR, hF, hor⟩
      have HL4 := Lib.hid ((hF.block _ hlr (by omega) (fun e => by have := HR.out _ e.symm; omega)).trans HL.out)
      have HB4 := Lib.hid (HB.out.trans ((hF.below (Nat.le_of_lt HW.out.lt) (fun g hg => by have := HR.out _ hg; omega)).mono (by omega)))
      have hr4 : ∀ g, row' = some g → w.heap.size + 1 + 1 < g := fun g hg => by
        rcases hR with h | ⟨g', h, hge⟩
        · exact HR.out g (h ▸ hg)
        · rw [h] at hg; injection hg with hg; omega
      obtain ⟨hv, hhv⟩ : ∃ q, es.headD 0 = q := ⟨_, rfl⟩
      rw [hhv] at hor
      have h01 : hv = 0 ∨ hv = 1 := by
        rcases hor with ⟨-, h, -⟩ | ⟨-, h⟩
        · exact .inl h
        · exact .inr h
      have he4 : Enc o (i + 1 + 1) ((hv != 0) || b) bs' := by
        have e2 : wid5 (i + 1) = 2 := rfl
        refine Enc.step (i := i + 1) HE.out (by omega) ?_
        rw [HX.out, e2]
        exact hor
      have HR4 := Lib.hid hr4
      have HE4 := Lib.hid he4
      have HW4 := Lib.hid hW
      have hlen4 : bs'.length ≤ 2 * (i + 1 + 1) := by omega
      have HCD := Lib.hid (show Calls Tryz.prog 25 #[.agg #[.slice A m c, .int .i64 at_]] w4 fun e w' => e = .returned (.int .i64 hv) ∧ Below w4.heap.size w4 w' by (have := rcode_any A m c es at_ w4 hRF hm; rw [hhv] at this; exact this))
      clear hRF hW hlen hR hF hor hr4 he4 hc hhv
      go_wp2_with fail
      go_at_call 25
      refine HCD.out.mono ?_
      rintro e w5 ⟨rfl, hb5⟩
      have HL5 := Lib.hid ((hb5.block _ (lt_of HL4.out)).trans HL4.out)
      have HB5 := Lib.hid (HB4.out.trans (hb5.mono HB4.out.size))
      have HW5 := Lib.hid (HW4.out.below hb5)
      clear HL4 HB4 HW4 HCD hb5 hm
      rcases h01 with rfl | rfl <;> (
        go_wp2_with fail
        go_roundw
        case rel => exact ⟨i + 1, _, bs', row', by omega, by go_num, rfl, HE4.out, hlen4, HW5.out, HR4.out, HL5.out, HB5.out⟩
        case measure => simp [intOf]; omega)
    · obtain rfl : i = 4 := by omega
      have hiI : ¬ ((4 : Nat) : Int) < 4 := by omega
      have HW := Lib.hid hW
      have HB := Lib.hid hb
      cases b with
      | false =>
        obtain ⟨hf, rfl⟩ := hE.1 rfl
        have HENC := Lib.hid (encO_yes (o := o) hf)
        clear hE hW hrow hL hb hf
        go_wp2_with fail
        go_at_call 26
        refine (refbytes _ row _ _ HW.out).mono ?_
        rintro e wb ⟨rfl, rfl⟩
        go_wp2
        go_ret2
        rw [HENC.out]
        exact ⟨rfl, HB.out⟩
      | true =>
        have HENC := Lib.hid (encO_no (o := o) (hE.2 rfl))
        clear hE hW hrow hL hb
        go_wp2_with fail
        go_ret2
        rw [HENC.out]
        exact ⟨rfl, HB.out⟩
end Go.Proofs.YthjinpbclfankaaGreatDoor
