/-
  Put (package shelf), by a contract.
-/
import Derived.Test.YtacdbfaoeioflaaGreatDoorRefuse
namespace Go.Proofs.YtacdbfaoeioflaaGreatDoor
open Go.RowKit

/-- Does a Put that answers e tell of a loss of power? -/
def lostP (lost : Bool) (e : Int) : Bool := lost || decide (e = 70)
theorem Sg.setLost {F : Nat → Prop} {w0 w1 : World} {sb mb pb : Nat} {s : St} {L : Lay} {odd : List Nat} {lost : Bool} (h : Sg F w0 w1 sb mb pb s L odd lost) :
    Sg F w0 (w1.setCell ⟨sb, 3, none⟩ (.bool true)) sb mb pb s L odd true ∧ w1.frozen? ⟨sb, 3, none⟩ = false := by
  obtain ⟨F1, h1, k⟩ := h.go
  obtain ⟨vb, hS, hk⟩ := h1.own
  have hB : ∀ k, k ≠ sb → (w1.setCell ⟨sb, 3, none⟩ (.bool true)).heap[k]? = w1.heap[k]? := fun k hk => Below.heap_setCell _ _ _ _ hk
  refine ⟨k _ _ _ _ _ (hk _ vb L odd true ⟨(hS.row.set 3 (.bool true)).congr fun o ho => ?_, hS.tm.of_block (hB _ hS.ne), owns_kept hS.bad fun g hg => hB g (fun e => hS.ne_bad (by rw [hg, e]))⟩ ((Keeps.refl _ w1).set (b := sb) (o := 3) (.inl (.inl rfl)) (.bool true)) (fun k hk => .inl hk)), hS.row.frozen 3⟩
  unfold sf
  by_cases e : o = 3
  · subst e; simp
  · rw [if_neg e]
    have : o = 0 ∨ o = 1 ∨ o = 2 := by omega
    rcases this with rfl | rfl | rfl <;> simp

/-- What Put leaves. -/
theorem putS_pre {L : Lay} {s : St} {b : Bk} (h : preE L s.gone b ≠ 0) : putE L s b = preE L s.gone b ∧ putS L s b = s ∧ putY L s b = L := by
  have h1 : putE L s b = preE L s.gone b := if_pos h
  exact ⟨h1, if_pos h, if_pos (by rw [h1]; exact h)⟩
theorem putS_wr {L : Lay} {s : St} {b : Bk} (h : preE L s.gone b = 0) : putE L s b = wrE s (low L) b ∧ putS L s b = wrS s (low L) b ∧ putY L s b = wrY L s (low L) b := by
  have h1 : putE L s b = wrE s (low L) b := if_neg (by omega)
  refine ⟨h1, if_neg (by omega), ?_⟩
  unfold putY wrY
  rw [h1]
  by_cases e : wrE s (low L) b = 0
  · rw [if_neg (by omega), if_pos e]
  · rw [if_pos e, if_neg e]
set_option maxRecDepth 100000 in
set_option maxHeartbeats 4000000 in
theorem put_any {F : Nat → Prop} {w : World} {sb mb pb : Nat} {s : St} {L : Lay} {odd : List Nat} {lost : Bool} {n k : Nat} (h : SF w sb mb pb s L odd lost F) (hT : Tab w) (hF : ¬ F 0) (hR : Rest s n k) (hk : k ≤ 900000) (hlost : lost = true → s.gone = true) (hL : L.length = n) {b : Bk} (hid : i64 b.id) :
    Calls Tryz.prog 13 #[.pointer (some ⟨sb, 0, none⟩), b.val] w fun e w' => e = .returned (.int .i64 (putE L s b)) ∧ Sg F w w' sb mb pb (putS L s b) (putY L s b) odd (lostP lost (putE L s b)) := by
  have hb0 : Below w.heap.size w (w.alloc (.cells b.cells 37)) := (Below.refl _ _).alloc (Nat.le_refl _) _
  have HF := Lib.hid hF
  have HFz := Lib.hid (fun (e : F w.heap.size) => Nat.lt_irrefl _ (h.lt _ e))
  have HB := Lib.hid hb0
  have A0 := Lib.hid (AB.fresh w b)
  have T0 := Lib.hid (hT.below hb0)
  have S0 := Lib.hid (h.below hb0)
  have hLs : s.is.length = L.length := by rw [hR.len, hL]
  have HRf := Lib.hid (fun w (h : SF w sb mb pb s L odd lost F) => refuse_any h hlost hLs hid)
  have HWr := Lib.hid (fun w (h : SF w sb mb pb s L odd lost F) (T : Tab w) (hb : refE b 1 = 0) (hi : Fre L (low L)) => swrite_any h T hF hR hk hb hi)
  have HLo := Lib.hid (fun w (h : SF w sb mb pb s L odd lost F) (hl : low L < L.length) => lowest_any h hl)
  have hfd := find_ref L s.gone b
  have hpre := @putS_pre L s b
  have hwr := @putS_wr L s b
  obtain ⟨pe, hpe⟩ : ∃ pe, preE L s.gone b = pe := ⟨_, rfl⟩
  have hz := fun h0 => preE_zero (L := L) (g := s.gone) (b := b) (hpe.trans h0)
  rw [hpe] at hfd hpre hwr
  have HFd := Lib.hid hfd
  have HPre := Lib.hid hpre
  have HW := Lib.hid hwr
  have HZ := Lib.hid hz
  obtain ⟨qE, hqE⟩ : ∃ x, putE L s b = x := ⟨_, rfl⟩
  obtain ⟨qS, hqS⟩ : ∃ x, putS L s b = x := ⟨_, rfl⟩
  obtain ⟨qY, hqY⟩ : ∃ x, putY L s b = x := ⟨_, rfl⟩
  rw [hqE, hqS, hqY] at HPre HW
  rw [hqE, hqS, hqY]
  clear hb0 hT hF h hLs hfd hpre hwr hpe hz hqE hqS hqY hR hlost hL
  obtain ⟨d0, d1, d2⟩ := A0.out.all
  go_enter Tryz.func13, Tryz.ntmps13
  go_wp2_with fail
  go_at_call 48
  refine (HRf.out _ S0.out).mono ?_
  rintro e w1 ⟨v, rfl, k1, k2⟩
  have V1 := Lib.hid k1
  have S1 := Lib.hid (S0.out.below k2)
  have A1 := Lib.hid (A0.out.below k2)
  have T1 := Lib.hid (T0.out.below k2)
  have B1 := Lib.hid (HB.out.trans (k2.mono HB.out.size))
  clear k1 k2 d0 d1 d2
  go_wp2_with fail
  have hb2 : Below w1.heap.size w1 (w1.alloc (.cells #[.int .i64 1, .int .i64 11, .int .i64 70, .int .i64 5, .int .i64 2] 30)) := (Below.refl _ _).alloc (Nat.le_refl _) _
  have HFi := Lib.hid (find_any 2 w1.heap.size 5 5 v (refL L s.gone b) [1, 11, 70, 5, 2] _ (V1.out.below hb2) rfl (by omega) (fun j x hx => by
    rcases j with _ | _ | _ | _ | _ | j
    · simp at hx; subst hx; simp
    · simp at hx; subst hx; simp
    · simp at hx; subst hx; simp
    · simp at hx; subst hx; simp
    · simp at hx; subst hx; simp
    · simp at hx))
  have S2 := Lib.hid (S1.out.below hb2)
  have A2 := Lib.hid (A1.out.below hb2)
  have T2 := Lib.hid (T1.out.below hb2)
  have B2 := Lib.hid (B1.out.trans (hb2.mono B1.out.size))
  rw [HFd.out] at HFi
  clear hb2
  generalize w1.alloc (.cells #[.int .i64 1, .int .i64 11, .int .i64 70, .int .i64 5, .int .i64 2] 30) = w2 at HFi S2 A2 T2 B2 ⊢
  go_at_call 47
  refine HFi.out.mono ?_
  rintro e w' ⟨rfl, rfl⟩
  by_cases h0 : pe = 0
  · obtain ⟨r1, r2, r3, r4⟩ := HZ.out h0
    obtain ⟨e1, e2, e3⟩ := HW.out h0
    subst h0
    have HL2 := Lib.hid (HLo.out (w2.drew) (S2.out.below ((Below.refl _ _).drew)) r4)
    have HR1 := Lib.hid r1
    have HR4 := Lib.hid (low_free r4)
    have hbd : Below w2.heap.size w2 w2.drew := (Below.refl _ _).drew
    have S3 := Lib.hid (S2.out.below hbd)
    have A3 := Lib.hid (A2.out.below hbd)
    have T3 := Lib.hid (T2.out.below hbd)
    have B3 := Lib.hid (B2.out.trans (hbd.mono B2.out.size))
    have hBc : BC w2.drew w.heap.size b := A3.out.all
    have X3 := Lib.hid hBc
    clear r1 r2 r3 r4 hbd hBc
    obtain ⟨d0, d1, d2⟩ := A2.out.all
    have E1 := Lib.hid e1
    have E2 := Lib.hid e2
    have E3 := Lib.hid e3
    clear e1 e2 e3
    go_wp2_with fail
    clear d0 d1 d2
    go_region_held3 (fun w' => w'.cell? ⟨w.heap.size, 0, none⟩ = some (.int .i64 b.id) ∧ w'.cell? ⟨w.heap.size, 1, none⟩ = some (.int .i64 b.ver) ∧ w'.cell? ⟨w.heap.size, 2, none⟩ = some (.string b.data))
      (first | exact X3.out | exact X4.out | exact X5.out.all | fail)
      (first
        | (go_at_call 50; with_reducible refine HL2.out.mono ?_; rintro e w4 ⟨rfl, k2⟩; have S4 := Lib.hid (S3.out.below k2); have A4 := Lib.hid (A3.out.below k2); have X4 := Lib.hid (X3.out.below k2); have T4 := Lib.hid (T3.out.below k2); have B4 := Lib.hid (B3.out.trans (k2.mono B3.out.size)); clear k2)
        | (go_at_call 49; with_reducible refine (HWr.out _ S4.out T4.out HR1.out HR4.out).mono ?_; rintro e w5 ⟨rfl, k2⟩; have S5 := Lib.hid (Sg.ahead B4.out k2); have X5 := Lib.hid (k2.ab A4.out HFz.out); clear k2)
        | fail)
    rw [← E2.out, ← E3.out] at S5
    rw [← E1.out]
    obtain ⟨c0, c1, c3⟩ := S5.out.cells
    by_cases h7 : qE = 70
    · subst h7
      obtain ⟨S6', f3⟩ := S5.out.setLost
      have S6 := Lib.hid S6'
      have hlp := Lib.hid (show lostP lost 70 = true from by unfold lostP; simp)
      clear S6'
      go_wp2
      go_ret
      exact ⟨rfl, by rw [hlp.out]; exact S6.out⟩
    · have hz7 : (qE == 70) = false := by simpa using h7
      have hlp := Lib.hid (show lostP lost qE = lost from by unfold lostP; rw [decide_eq_false h7, Bool.or_false])
      go_wp2
      go_ret
      exact ⟨rfl, by rw [hlp.out]; exact S5.out⟩
  · obtain ⟨e1, e2, e3⟩ := HPre.out h0
    subst e1
    subst e2
    subst e3
    have hz0 : (qE == 0) = false := by simpa using h0
    have S3 := Lib.hid (Sg.ahead B2.out (Sg.start S2.out))
    obtain ⟨c0, c1, c3⟩ := S3.out.cells
    by_cases h7 : qE = 70
    · subst h7
      obtain ⟨S4', f3⟩ := S3.out.setLost
      have S4 := Lib.hid S4'
      have hlp := Lib.hid (show lostP lost 70 = true from by unfold lostP; simp)
      clear S4'
      go_wp2
      go_ret
      exact ⟨rfl, by rw [hlp.out]; exact S4.out⟩
    · have hz7 : (qE == 70) = false := by simpa using h7
      have hlp := Lib.hid (show lostP lost qE = lost from by unfold lostP; rw [decide_eq_false h7, Bool.or_false])
      go_wp2
      go_ret
      exact ⟨rfl, by rw [hlp.out]; exact S3.out⟩
end Go.Proofs.YtacdbfaoeioflaaGreatDoor
