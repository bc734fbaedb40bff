/-
  The document's own calls on a place (weirkeepref04), by one contract each: Take, Drop, Twice, Late.
-/
import Derived.Test.YthcoghgpdcnhlaaRtake
namespace Go.Proofs.Ythcoghgpdcnhlaa
open Go.RowKit

/-- What a bag has: messages that may be, no more than there is room for. -/
structure Fit (l : List M) : Prop where
  all : ∀ m ∈ l, m.chk = 0
  le : l.length ≤ 64
theorem atP_mem {l : List M} {i : Int} (h : has l i) : atP l i ∈ l := List.mem_of_getElem? (atP_get h)

theorem rtake_any (b : Nat) (row : Option Nat) (l : List M) (i : Int) (w : World) (hB : Bg w b row l) (hl : l.length ≤ 900) :
    Calls Try.prog 29 #[.pointer (some ⟨b, 0, none⟩), .int .i64 i] w fun e w' => e = .returned (.tuple #[(tkM l i).val, .int .i64 (tkE l i)]) ∧ ∃ row', Bg w' b row' (tkL l i) ∧ RowOk row row' w ∧ Fr b row w w' := by
  by_cases h : has l i
  · rw [show tkM l i = atP l i from if_pos h, show tkE l i = 0 from if_pos h, show tkL l i = rest l i.toNat from if_pos h]
    have := rtake_yes b row l i.toNat (atP l i) w hB (atP_get h) hl
    rw [show (i.toNat : Int) = i by unfold has at h; omega] at this
    exact this
  · rw [show tkM l i = M.zero from if_neg h, show tkE l i = 3 from if_neg h, show tkL l i = l from if_neg h]
    exact rtake_no b row l i w hB h

set_option maxRecDepth 100000 in
theorem rdrop_any (b : Nat) (row : Option Nat) (l : List M) (i : Int) (w : World) (hB : Bg w b row l) (hl : l.length ≤ 900) :
    Calls Try.prog 30 #[.pointer (some ⟨b, 0, none⟩), .int .i64 i] w fun e w' => e = .returned (.int .i64 (tkE l i)) ∧ ∃ row', Bg w' b row' (tkL l i) ∧ RowOk row row' w ∧ Fr b row w w' := by
  have HT := Lib.hid (rtake_any b row l i w hB hl)
  clear hB
  generalize tkM l i = m at HT
  generalize tkE l i = x at HT ⊢
  go_enter Try.func30, Try.ntmps30
  go_wp2_with fail
  go_at_call 29
  refine HT.out.mono ?_
  rintro e w1 ⟨rfl, r, h1, h2, h3⟩
  have H1 := Lib.hid (And.intro h1 (And.intro h2 h3))
  clear h1 h2 h3
  go_wp2
  go_ret
  have hb : Below w1.heap.size w1 (w1.alloc (.cells m.cells 31)) := (Below.refl _ _).alloc (Nat.le_refl _) _
  exact ⟨rfl, r, H1.out.1.below hb, H1.out.2.1, H1.out.2.2.then_below hb⟩

set_option maxRecDepth 100000 in
theorem rtwice_any (b : Nat) (row : Option Nat) (l : List M) (i : Int) (w : World) (hB : Bg w b row l) (hF : Fit l) :
    Calls Try.prog 25 #[.pointer (some ⟨b, 0, none⟩), .int .i64 i] w fun e w' => e = .returned (.int .i64 (twE l i)) ∧ ∃ row', Bg w' b row' (twL l i) ∧ RowOk row row' w ∧ Fr b row w w' := by
  have hl := hF.le
  by_cases h : has l i
  · have hc := hF.all _ (atP_mem h)
    have HSN := Lib.hid (rsend_any b row l (atP l i) w hB (by omega))
    rw [show sendE l (atP l i) = roomE l from if_pos hc, show sendL l (atP l i) = roomL l (atP l i) from if_pos hc] at HSN
    rw [show twE l i = roomE l from if_pos h, show twL l i = roomL l (atP l i) from if_pos h]
    obtain ⟨g, cap, hs, hgl, c0, c1, c2, c3, c4, c5, c6, c7⟩ := rat_cell hB (atP_get h)
    have HB := Lib.hid hB
    have h1 := h.1
    have h2 := h.2
    have HH := Lib.hid h
    generalize roomL l (atP l i) = k at HSN ⊢
    generalize roomE l = x at HSN ⊢
    generalize atP l i = m at HSN c0 c1 c2 c3 c4 c5 c6 c7
    have h3 : (i.toNat : Int) = i := by omega
    clear hB h hc hF
    go_enter Try.func25, Try.ntmps25
    go_wp2_with fail
    go_at_call 41
    refine (rhas_yes _ _ l i _ HB.out HH.out).mono ?_
    rintro e w1 ⟨rfl, rfl⟩
    go_wp2_with fail
    go_at_call 24
    refine HSN.out.mono ?_
    rintro e w1 ⟨rfl, r, k1, k2, k3⟩
    have H1 := Lib.hid (And.intro k1 (And.intro k2 k3))
    clear k1 k2 k3
    go_wp2
    go_ret
    exact ⟨rfl, r, H1.out.1, H1.out.2.1, H1.out.2.2⟩
  · rw [show twE l i = 3 from if_neg h, show twL l i = l from if_neg h]
    have HB := Lib.hid hB
    have HH := Lib.hid h
    clear hB h hF
    go_enter Try.func25, Try.ntmps25
    go_wp2_with fail
    go_at_call 41
    refine (rhas_no _ _ l i _ HB.out HH.out).mono ?_
    rintro e w1 ⟨rfl, rfl⟩
    go_wp2
    go_ret
    exact ⟨rfl, row, HB.out, .inl rfl, Fr.refl _ _ _⟩

set_option maxRecDepth 100000 in
set_option maxHeartbeats 2000000 in
theorem rlate_any (b : Nat) (row : Option Nat) (l : List M) (i : Int) (w : World) (hB : Bg w b row l) (hF : Fit l) :
    Calls Try.prog 31 #[.pointer (some ⟨b, 0, none⟩), .int .i64 i] w fun e w' => e = .returned (.int .i64 (tkE l i)) ∧ ∃ row', Bg w' b row' (ltL l i) ∧ RowOk row row' w ∧ Fr b row w w' := by
  have hl := hF.le
  have HT := Lib.hid (rtake_any b row l i w hB (by omega))
  clear hB
  by_cases h : has l i
  · have e1 : tkE l i = 0 := if_pos h
    have e3 : tkL l i = rest l i.toNat := if_pos h
    have e4 : tkM l i = atP l i := if_pos h
    have e2 : ltL l i = tkL l i ++ [tkM l i] := by rw [show ltL l i = rest l i.toNat ++ [atP l i] from if_pos h, e3, e4]
    have hkl : (tkL l i).length < 64 := by rw [e3, rest_length (by unfold has at h; omega)]; unfold has at h; omega
    have hc : (tkM l i).chk = 0 := by rw [e4]; exact hF.all _ (atP_mem h)
    rw [e2, e1]
    rw [e1] at HT
    have HS1 := Lib.hid (show sendL (tkL l i) (tkM l i) = tkL l i ++ [tkM l i] by rw [sendL, if_pos hc, roomL, if_neg (by omega)])
    generalize tkM l i = m at HT HS1 hc ⊢
    generalize tkL l i = k at HT hkl HS1 ⊢
    clear e1 e2 e3 e4 h hF hc
    go_enter Try.func31, Try.ntmps31
    go_wp2_with fail
    go_at_call 29
    refine HT.out.mono ?_
    rintro e w1 ⟨rfl, r, h1, h2, h3⟩
    have hb : Below w1.heap.size w1 (w1.alloc (.cells m.cells 31)) := (Below.refl _ _).alloc (Nat.le_refl _) _
    have HB1 := Lib.hid (h1.below hb)
    have HR1 := Lib.hid h2
    have HF1 := Lib.hid (h3.then_below hb)
    clear h1 h2 h3 hb
    go_wp2_with fail
    go_at_call 24
    refine (rsend_any _ _ k m _ HB1.out (by omega)).mono ?_
    rw [HS1.out]
    rintro e w2 ⟨rfl, r2, h1, h2, h3⟩
    have H2 := Lib.hid (And.intro h1 (And.intro h2 h3))
    clear h1 h2 h3
    go_wp2
    go_ret
    exact ⟨rfl, r2, H2.out.1, HR1.out.trans HF1.out.size H2.out.2.1, HF1.out.trans H2.out.2.2 HR1.out⟩
  · have e1 : tkE l i = 3 := if_neg h
    have e2 : ltL l i = tkL l i := by rw [show ltL l i = l from if_neg h, show tkL l i = l from if_neg h]
    rw [e2, e1]
    rw [e1] at HT
    generalize tkM l i = m at HT ⊢
    generalize tkL l i = k at HT ⊢
    clear e1 e2 h
    go_enter Try.func31, Try.ntmps31
    go_wp2_with fail
    go_at_call 29
    refine HT.out.mono ?_
    rintro e w1 ⟨rfl, r, h1, h2, h3⟩
    have H1 := Lib.hid (And.intro h1 (And.intro h2 h3))
    clear h1 h2 h3
    go_wp2
    go_ret
    have hb : Below w1.heap.size w1 (w1.alloc (.cells m.cells 31)) := (Below.refl _ _).alloc (Nat.le_refl _) _
    exact ⟨rfl, r, H1.out.1.below hb, H1.out.2.1, H1.out.2.2.then_below hb⟩
end Go.Proofs.Ythcoghgpdcnhlaa
