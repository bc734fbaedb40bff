/-
  The bag's calls on a place (package bag), by one contract each: Take, Twice, Drop, Late.
-/
import Derived.Test.YthcoghgpdcnhlaaTook
namespace Go.Proofs.Ythcoghgpdcnhlaa
open Go.RowKit

instance decHas (l : List M) (i : Int) : Decidable (has l i) := by unfold has; infer_instance
/-- What Take tells, answers and leaves. -/
def tkM (l : List M) (i : Int) : M := if has l i then atP l i else M.zero
def tkE (l : List M) (i : Int) : Int := if has l i then 0 else 3
def tkL (l : List M) (i : Int) : List M := if has l i then rest l i.toNat else l
/-- What Twice answers and leaves. -/
def twE (l : List M) (i : Int) : Int := if has l i then roomE l else 3
def twL (l : List M) (i : Int) : List M := if has l i then roomL l (atP l i) else l
/-- What Late leaves. -/
def ltL (l : List M) (i : Int) : List M := if has l i then rest l i.toNat ++ [atP l i] else l

theorem rest_length {l : List M} {i : Nat} (h : i < l.length) : (rest l i).length = l.length - 1 := by unfold rest; simp; omega
theorem tkL_le (l : List M) (i : Int) : (tkL l i).length ≤ l.length := by
  unfold tkL
  split
  · rename_i h
    unfold has at h
    rw [rest_length (by omega)]; omega
  · exact Nat.le_refl _

theorem take_any (b : Nat) (row : Option Nat) (l : List M) (i : Int) (w : World) (hB : Bg w b row l) (hl : l.length ≤ 900) :
    Calls Try.prog 11 #[.pointer (some ⟨b, 0, none⟩), .int .i64 i] w fun e w' => e = .returned (.tuple #[(tkM l i).val, .int .i64 (tkE l i)]) ∧ ∃ row', Bg w' b row' (tkL l i) ∧ RowOk row row' w ∧ Fr b row w w' := by
  by_cases h : has l i
  · rw [show tkM l i = atP l i from if_pos h, show tkE l i = 0 from if_pos h, show tkL l i = rest l i.toNat from if_pos h]
    exact take_yes b row l i.toNat i (atP l i) w hB (atP_get h) (by unfold has at h; omega) hl
  · rw [show tkM l i = M.zero from if_neg h, show tkE l i = 3 from if_neg h, show tkL l i = l from if_neg h]
    exact take_no b row l i w hB h
theorem twice_any (b : Nat) (row : Option Nat) (l : List M) (i : Int) (w : World) (hB : Bg w b row l) (hl : l.length ≤ 900) :
    Calls Try.prog 19 #[.pointer (some ⟨b, 0, none⟩), .int .i64 i] w fun e w' => e = .returned (.int .i64 (twE l i)) ∧ ∃ row', Bg w' b row' (twL l i) ∧ RowOk row row' w ∧ Fr b row w w' := by
  by_cases h : has l i
  · rw [show twE l i = roomE l from if_pos h, show twL l i = roomL l (atP l i) from if_pos h]
    have := twice_yes b row l i.toNat (atP l i) w hB (atP_get h) hl
    rw [show (i.toNat : Int) = i by unfold has at h; omega] at this
    exact this
  · rw [show twE l i = 3 from if_neg h, show twL l i = l from if_neg h]
    exact twice_no b row l i w hB h

set_option maxRecDepth 100000 in
theorem drop_any (b : Nat) (row : Option Nat) (l : List M) (i : Int) (w : World) (hB : Bg w b row l) (hl : l.length ≤ 900) :
    Calls Try.prog 20 #[.pointer (some ⟨b, 0, none⟩), .int .i64 i] w fun e w' => e = .returned (.int .i64 (tkE l i)) ∧ ∃ row', Bg w' b row' (tkL l i) ∧ RowOk row row' w ∧ Fr b row w w' := by
  have HT := Lib.hid (take_any b row l i w hB hl)
  clear hB
  generalize tkM l i = m at HT
  generalize tkE l i = x at HT ⊢
  go_enter Try.func20, Try.ntmps20
  go_wp2_with fail
  go_at_call 11
  refine HT.out.mono ?_
  rintro e w1 ⟨rfl, r, h1, h2, h3⟩
  have H1 := Lib.hid (And.intro h1 (And.intro h2 h3))
  clear h1 h2 h3
  go_wp2
  go_ret
  have hb : Below w1.heap.size w1 (w1.alloc (.cells m.cells 31)) := (Below.refl _ _).alloc (Nat.le_refl _) _
  exact ⟨rfl, r, H1.out.1.below hb, H1.out.2.1, H1.out.2.2.then_below hb⟩

set_option maxRecDepth 100000 in
set_option maxHeartbeats 2000000 in
theorem late_any (b : Nat) (row : Option Nat) (l : List M) (i : Int) (w : World) (hB : Bg w b row l) (hl : l.length ≤ 900) :
    Calls Try.prog 21 #[.pointer (some ⟨b, 0, none⟩), .int .i64 i] w fun e w' => e = .returned (.int .i64 (tkE l i)) ∧ ∃ row', Bg w' b row' (ltL l i) ∧ RowOk row row' w ∧ Fr b row w w' := by
  have HT := Lib.hid (take_any b row l i w hB hl)
  have hbl := hB.lt
  have hrow : ∀ g, row = some g → g < w.heap.size := fun _ hg => (hB.row_lt hg).2
  clear hB
  by_cases h : has l i
  · have e1 : tkE l i = 0 := if_pos h
    have e2 : ltL l i = tkL l i ++ [tkM l i] := by rw [show ltL l i = rest l i.toNat ++ [atP l i] from if_pos h, show tkL l i = rest l i.toNat from if_pos h, show tkM l i = atP l i from if_pos h]
    have hkl := tkL_le l i
    rw [e2, e1]
    rw [e1] at HT
    generalize tkM l i = m at HT ⊢
    generalize tkL l i = k at HT hkl ⊢
    clear e1 e2 h
    go_enter Try.func21, Try.ntmps21
    go_wp2_with fail
    go_at_call 11
    refine HT.out.mono ?_
    rintro e w1 ⟨rfl, r, h1, h2, h3⟩
    have hb : Below w1.heap.size w1 (w1.alloc (.cells m.cells 31)) := (Below.refl _ _).alloc (Nat.le_refl _) _
    have hs1 := h3.size
    have hbr := h1.lt
    have hr1 : ∀ g, r = some g → g < w1.heap.size := fun _ hg => (h1.row_lt hg).2
    have HB1 := Lib.hid (h1.below hb)
    have HR1 := Lib.hid h2
    have HF1 := Lib.hid (h3.then_below hb)
    have HM1 := Lib.hid (Mat.fresh w1 m 31)
    have hz1 : (w1.alloc (.cells m.cells 31)).heap.size = w1.heap.size + 1 := by simp
    obtain ⟨s, hs, -⟩ := HB1.out
    clear h1 h2 h3 hb
    go_wp2_with fail
    generalize w1.alloc (.cells m.cells 31) = w2 at HB1 HF1 HM1 hs hz1 ⊢
    have hbd : Below w2.heap.size w2 w2.drew := (Below.refl _ _).drew
    have HBz := Lib.hid (HB1.out.below hbd)
    have HFz := Lib.hid (HF1.out.then_below hbd)
    have HMz := Lib.hid (HM1.out.below hbd)
    clear hbd HB1 HF1 HM1
    go_region_held3 (fun w' => w'.cell? ⟨w1.heap.size, 0, none⟩ = some (.int .i64 m.kind) ∧ w'.cell? ⟨w1.heap.size, 1, none⟩ = some (.int .i64 m.src) ∧ w'.cell? ⟨w1.heap.size, 2, none⟩ = some (.int .i64 m.dst) ∧ w'.cell? ⟨w1.heap.size, 3, none⟩ = some (.int .i64 m.epoch) ∧ w'.cell? ⟨w1.heap.size, 4, none⟩ = some (.int .i64 m.seq) ∧ w'.cell? ⟨w1.heap.size, 5, none⟩ = some (.int .i64 m.off) ∧ w'.cell? ⟨w1.heap.size, 6, none⟩ = some (.int .i64 m.len) ∧ w'.cell? ⟨w1.heap.size, 7, none⟩ = some (.string m.data))
      (first | exact HMz.out.all | exact HMa.out.all | fail)
      (first
        | (go_at_call 38; refine (add_any _ _ k m _ HBz.out (by omega)).mono ?_; rintro e wa ⟨rfl, ra, hBa, hra, hfa⟩; have HMa := Lib.hid (HMz.out.fr hfa (by omega) (fun e => by have := hr1 _ e.symm; omega)); have HBga := Lib.hid hBa; have HRa := Lib.hid hra; have HFa := Lib.hid hfa; clear hBa hra hfa)
        | fail)
    go_wp2
    go_ret
    exact ⟨rfl, ra, HBga.out, HR1.out.trans HFz.out.size HRa.out, HFz.out.trans HFa.out HR1.out⟩
  · have e1 : tkE l i = 3 := if_neg h
    have e2 : ltL l i = tkL l i := by rw [show ltL l i = l from if_neg h, show tkL l i = l from if_neg h]
    rw [e2, e1]
    rw [e1] at HT
    generalize tkM l i = m at HT ⊢
    generalize tkL l i = k at HT ⊢
    clear e1 e2 h
    go_enter Try.func21, Try.ntmps21
    go_wp2_with fail
    go_at_call 11
    refine HT.out.mono ?_
    rintro e w1 ⟨rfl, r, h1, h2, h3⟩
    have H1 := Lib.hid (And.intro h1 (And.intro h2 h3))
    clear h1 h2 h3
    go_wp2
    go_ret
    have hb : Below w1.heap.size w1 (w1.alloc (.cells m.cells 31)) := (Below.refl _ _).alloc (Nat.le_refl _) _
    exact ⟨rfl, r, H1.out.1.below hb, H1.out.2.1, H1.out.2.2.then_below hb⟩
end Go.Proofs.Ythcoghgpdcnhlaa
