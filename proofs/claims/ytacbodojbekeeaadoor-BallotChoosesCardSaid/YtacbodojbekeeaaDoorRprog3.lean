/-
  Accept of the document's own acceptor, whatever it is asked.
-/
import Derived.Test.YtacbodojbekeeaaDoorRprog2
namespace Go.Proofs.YtacbodojbekeeaaDoor
open Go.RowKit

set_option maxRecDepth 100000 in
theorem raccept_any (r : Nat) (v : V) (A : Acc) (w : World) (h : RC w r A.p A.l) (hs : Srt 0 A.l) :
    Calls Tryd.prog 18 #[.pointer (some ⟨r, 0, none⟩), v.val] w fun e w' => e = .returned (.int .i64 (accE A v)) ∧ RC w' r (A.accept v).p (A.accept v).l ∧ Fb r w w' := by
  by_cases hok : accE A v = 0
  · have e2 : A.accept v = ⟨v.b, ins v A.l⟩ := by unfold Acc.accept; rw [if_pos hok]
    obtain ⟨h1, h2⟩ := accE_zero.1 hok
    rw [hok, e2]
    exact raccept_ok r v A.p A.l w h hs h1 (by omega)
  have e2 : A.accept v = A := by unfold Acc.accept; rw [if_neg hok]
  rw [e2]
  clear e2
  have hba : Below w.heap.size w (w.alloc (.cells v.cells 46)) := (Below.refl _ _).alloc (Nat.le_refl _) _
  have HB := Lib.hid hba
  have HP := Lib.hid (h.below hba)
  have HI := Lib.hid (risB_any v.b)
  obtain ⟨r', hr⟩ : ∃ r', decide (isB v.b) = r' := ⟨_, rfl⟩
  rw [hr] at HI
  obtain ⟨c0, -⟩ := (h.below hba).form
  have hrl := h.lt
  have HE := Lib.hid (show accE A v = if wrongE v = 0 then (if v.b < A.p then 5 else 0) else wrongE v from rfl)
  have HW := Lib.hid (show wrongE v = if 0 ≤ v.s ∧ v.s < 4096 ∧ isB v.b then (if 1024 < v.x.size then 11 else 0) else 1 from rfl)
  clear h hba hs
  obtain ⟨s, b, x⟩ := v
  by_cases h0 : s < 0
  · have e1 : wrongE ⟨s, b, x⟩ = 1 := by rw [HW.out, if_neg (fun h => by have h' : 0 ≤ s := h.1; omega)]
    have e : accE A ⟨s, b, x⟩ = 1 := by rw [HE.out, e1]; rfl
    rw [e]
    clear hok e e1 HW hr
    clear HE
    go_enter Tryd.func18, Tryd.ntmps18
    go_wp2
    go_ret
    exact ⟨rfl, HP.out, Fb.of_below HB.out⟩
  by_cases h1 : 4096 ≤ s
  · have e1 : wrongE ⟨s, b, x⟩ = 1 := by rw [HW.out, if_neg (fun h => by have h' : s < 4096 := h.2.1; omega)]
    have e : accE A ⟨s, b, x⟩ = 1 := by rw [HE.out, e1]; rfl
    rw [e]
    clear hok e e1 HW hr
    clear HE
    go_enter Tryd.func18, Tryd.ntmps18
    go_wp2
    go_ret
    exact ⟨rfl, HP.out, Fb.of_below HB.out⟩
  cases r' with
  | false =>
    have e1 : wrongE ⟨s, b, x⟩ = 1 := by rw [HW.out, if_neg (fun h => of_decide_eq_false hr h.2.2)]
    have e : accE A ⟨s, b, x⟩ = 1 := by rw [HE.out, e1]; rfl
    rw [e]
    clear hok e e1 HW hr
    clear HE
    go_enter Tryd.func18, Tryd.ntmps18
    go_wp2_with (go_at_call 33; refine (HI.out _).mono ?_; rintro e w' ⟨rfl, rfl⟩)
    go_ret
    exact ⟨rfl, HP.out, Fb.of_below HB.out⟩
  | true =>
    have hI : 0 ≤ s ∧ s < 4096 ∧ isB b := ⟨by omega, by omega, of_decide_eq_true hr⟩
    by_cases h2 : 1024 < x.size
    · have e1 : wrongE ⟨s, b, x⟩ = 11 := by rw [HW.out, if_pos hI, if_pos h2]
      have e : accE A ⟨s, b, x⟩ = 11 := by rw [HE.out, e1]; rfl
      rw [e]
      have h2I : (1024 : Int) < (x.size : Int) := by omega
      clear hok e e1 HW hr hI
      clear HE
      go_enter Tryd.func18, Tryd.ntmps18
      go_wp2_with (go_at_call 33; refine (HI.out _).mono ?_; rintro e w' ⟨rfl, rfl⟩)
      go_ret
      exact ⟨rfl, HP.out, Fb.of_below HB.out⟩
    · have e1 : wrongE ⟨s, b, x⟩ = 0 := by rw [HW.out, if_pos hI, if_neg h2]
      have h3 : b < A.p := by
        apply Classical.byContradiction
        intro hn
        exact hok (by rw [HE.out, e1, if_pos rfl, if_neg hn])
      have e : accE A ⟨s, b, x⟩ = 5 := by rw [HE.out, e1, if_pos rfl, if_pos h3]
      rw [e]
      have h2I : ¬ (1024 : Int) < (x.size : Int) := by omega
      clear hok e e1 HW hr hI HE
      have b0 := (AV.fresh 46 w ⟨s, b, x⟩).all
      have hbx : w.heap.size < (w.alloc (.cells (V.cells ⟨s, b, x⟩) 46)).heap.size := by simp
      go_enter Tryd.func18, Tryd.ntmps18
      go_wp2_with (go_at_call 33; refine (HI.out _).mono ?_; rintro e w' ⟨rfl, rfl⟩)
      generalize w.alloc (.cells (V.cells ⟨s, b, x⟩) 46) = w0 at HP HB c0 b0 hbx ⊢
      obtain ⟨b0, b1, b2⟩ := b0
      generalize hB : w.heap.size = B at *
      go_quiet (fail)
      go_wp2
      go_ret
      exact ⟨rfl, HP.out, (Fb.of_below (hB ▸ HB.out)).drewN _⟩
end Go.Proofs.YtacbodojbekeeaaDoor
