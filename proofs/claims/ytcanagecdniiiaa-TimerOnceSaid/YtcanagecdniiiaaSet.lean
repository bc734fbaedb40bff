/-
  Set and Stop (package timer), by contracts.
-/
import Derived.Test.YtcanagecdniiiaaTimers
namespace Go.Proofs.Ytcanagecdniiiaa
open Go.RowKit

/-- The alarm's cells, and the timers' field. -/
def CB (w : World) (B mb z : Nat) (x : Al) : Prop := w.cell? ⟨B, 0, none⟩ = some (.map (some mb)) ∧ w.cell? ⟨z, 0, none⟩ = some (.int .i64 x.n) ∧ w.cell? ⟨z, 1, none⟩ = some (.int .i64 x.a) ∧ w.cell? ⟨z, 2, none⟩ = some (.int .i64 x.t)
theorem CB.mk' {w : World} {B mb z : Nat} {l : List Al} {x : Al} (h : Tms w B mb l) (k : At w z 0 x) : CB w B mb z x := ⟨h.1, k.c0, k.c1, k.c2⟩

theorem At.kept {w w' : World} {g o : Nat} {m : Al} {row : Option Nat} (h : At w g o m) (hg : w.grownBy w' row) (hne : some g ≠ row) : At w' g o m :=
  ⟨hg.cell h.c0 hne, hg.cell h.c1 hne, hg.cell h.c2 hne⟩
theorem Tms.ne_at {w : World} {B mb z o : Nat} {l : List Al} {x : Al} (h : Tms w B mb l) (k : At w z o x) : some z ≠ some mb := fun e => h.2.ne_cells k.c0 (Option.some.inj e).symm

set_option maxRecDepth 100000 in
set_option maxHeartbeats 2000000 in
theorem set_any (B mb : Nat) (l : List Al) (x : Al) (w : World) (h : Tms w B mb l) :
    Calls Try.prog 16 #[.pointer (some ⟨B, 0, none⟩), x.val] w fun e w' => e = .returned (.int .i64 (setE l x)) ∧ Tms w' B mb (setL l x) ∧ w.grownBy w' (some mb) := by
  have hG := h.2.good
  have hb1 : Below w.heap.size w (w.alloc (.cells x.cells 31)) := (Below.refl _ _).alloc (Nat.le_refl _) _
  have T1 := Lib.hid (h.below hb1)
  have X1 := Lib.hid (At.fresh w x 31)
  have B1 := Lib.hid hb1
  have hz : w.heap.size < (w.alloc (.cells x.cells 31)).heap.size := by simp
  clear h hb1
  by_cases hok : x.ok
  · have HA := Lib.hid (fun w => show Calls Try.prog 26 #[x.val] w fun e w' => e = .returned (.bool true) ∧ Below w.heap.size w w' from decide_eq_true hok ▸ allowed_any x w)
    have HK := Lib.hid (fun w => key_any x w)
    have HH := Lib.hid (fun w (T : Tms w B mb l) => has_any B mb l x.n x.t w T hok.n64 hok.t64)
    by_cases hf : hasA l x.n x.t = false ∧ 64 ≤ l.length
    · have e1 : setE l x = 2 := by unfold setE; rw [if_neg (by simpa using hok), if_pos hf]
      have e2 : setL l x = l := by unfold setL; rw [e1]; rfl
      rw [e1, e2]
      obtain ⟨hf1, hf2⟩ := hf
      rw [hf1] at HH
      have hfI : (64 : Int) ≤ (l.length : Int) := by omega
      clear e1 e2 hf1 hf2 hG
      go_enter Try.func16, Try.ntmps16
      obtain ⟨d0, d1, d2⟩ := X1.out
      go_wp2_with fail
      go_at_call 26
      refine (HA.out _).mono ?_
      rintro e wa ⟨rfl, k1⟩
      have Ta := Lib.hid (T1.out.below k1)
      have Xa := Lib.hid (X1.out.below k1)
      have Ba := Lib.hid (B1.out.trans (k1.mono B1.out.size))
      clear k1 T1 X1 B1 HA d0 d1 d2
      obtain ⟨d0, d1, d2⟩ := Xa.out
      go_wp2_with fail
      go_at_call 28
      refine (HK.out _).mono ?_
      rintro e wb ⟨rfl, k1⟩
      have Tb := Lib.hid (Ta.out.below k1)
      have Bb := Lib.hid (Ba.out.trans (k1.mono Ba.out.size))
      clear k1 Ta Xa Ba d0 d1 d2
      go_wp2_with fail
      go_at_call 27
      refine (HH.out _ Tb.out).mono ?_
      rintro e wc ⟨rfl, k1⟩
      have Tc := Lib.hid (Tb.out.below k1)
      have Bc := Lib.hid (Bb.out.trans (k1.mono Bb.out.size))
      have c0 := Tc.out.1
      have hlen := fun ty => Tc.out.2.len ty
      clear k1 Tb Bb
      go_wp2
      go_ret
      exact ⟨rfl, Tc.out, grown_of_below Bc.out _⟩
    · have e1 : setE l x = 0 := by unfold setE; rw [if_neg (by simpa using hok), if_neg hf]
      have e2 : setL l x = ins x (wo l x.n x.t) := by unfold setL; rw [e1]; rfl
      have hG2 := Lib.hid (e2 ▸ hG.set x)
      have hor : hasA l x.n x.t = true ∨ (hasA l x.n x.t = false ∧ ¬ ((64 : Int) ≤ (l.length : Int))) := by
        cases hh : hasA l x.n x.t
        · refine .inr ⟨rfl, fun hc => hf ⟨hh, by omega⟩⟩
        · exact .inl rfl
      rw [e1, e2]
      have HO := Lib.hid hok
      clear e1 e2 hf hG hok
      rcases hor with hr | ⟨hr, hlt⟩
      all_goals
        rw [hr] at HH
        clear hr
        go_enter Try.func16, Try.ntmps16
        obtain ⟨d0, d1, d2⟩ := X1.out
        go_wp2_with fail
        go_at_call 26
        refine (HA.out _).mono ?_
        rintro e wa ⟨rfl, k1⟩
        have Ta := Lib.hid (T1.out.below k1)
        have Xa := Lib.hid (X1.out.below k1)
        have Ba := Lib.hid (B1.out.trans (k1.mono B1.out.size))
        clear k1 T1 X1 B1 HA d0 d1 d2
        obtain ⟨d0, d1, d2⟩ := Xa.out
        go_wp2_with fail
        go_at_call 28
        refine (HK.out _).mono ?_
        rintro e wb ⟨rfl, k1⟩
        have Tb := Lib.hid (Ta.out.below k1)
        have Xb := Lib.hid (Xa.out.below k1)
        have Bb := Lib.hid (Ba.out.trans (k1.mono Ba.out.size))
        clear k1 Ta Xa Ba d0 d1 d2
        go_wp2_with fail
        go_at_call 27
        refine (HH.out _ Tb.out).mono ?_
        rintro e wc ⟨rfl, k1⟩
        have Tc := Lib.hid (Tb.out.below k1)
        have Xc := Lib.hid (Xb.out.below k1)
        have Bc := Lib.hid (Bb.out.trans (k1.mono Bb.out.size))
        have c0 := Tc.out.1
        have hlen := fun ty => Tc.out.2.len ty
        clear k1 Tb Xb Bb
        go_wp2_with fail
        clear hlen c0
        have hbd : Below wc.heap.size wc wc.drew := (Below.refl _ _).drew
        have Td := Lib.hid (Tc.out.below hbd)
        have Xd := Lib.hid (Xc.out.below hbd)
        have Bd := Lib.hid Bc.out.drew
        have Sd := Lib.hid (CB.mk' Td.out Xd.out)
        clear hbd Tc Xc Bc
        go_region_held3 (fun w' => w'.cell? ⟨B, 0, none⟩ = some (.map (some mb)) ∧ w'.cell? ⟨w.heap.size, 0, none⟩ = some (.int .i64 x.n) ∧ w'.cell? ⟨w.heap.size, 1, none⟩ = some (.int .i64 x.a) ∧ w'.cell? ⟨w.heap.size, 2, none⟩ = some (.int .i64 x.t))
          (first | exact Sd.out | exact Se.out | exact Sf.out | fail)
          (first
            | (go_at_call 28; refine (HK.out _).mono ?_; rintro e we ⟨rfl, k1⟩; have Te := Lib.hid (Td.out.below k1); have Xe := Lib.hid (Xd.out.below k1); have Be := Lib.hid (Bd.out.trans (k1.mono Bd.out.size)); have Se := Lib.hid (CB.mk' Te.out Xe.out); (obtain ⟨wf, hrun, k2, k3⟩ := Te.out.2.put HO.out hG2.out); have Tf := Lib.hid (Te.out.turned k3.grown k2); have Sf := Lib.hid (CB.mk' Tf.out (Xe.out.kept k3.grown (Te.out.ne_at Xe.out))); have Gf := Lib.hid (below_then_grown Be.out k3.grown); clear k1 k2 k3)
            | fail)
        go_wp2
        go_ret
        exact ⟨rfl, Tf.out, Gf.out⟩
  · have e1 : setE l x = 1 := by unfold setE; rw [if_pos hok]
    have e2 : setL l x = l := by unfold setL; rw [e1]; rfl
    rw [e1, e2]
    have HA := Lib.hid (fun w => show Calls Try.prog 26 #[x.val] w fun e w' => e = .returned (.bool false) ∧ Below w.heap.size w w' from decide_eq_false hok ▸ allowed_any x w)
    clear e1 e2 hok hG
    go_enter Try.func16, Try.ntmps16
    obtain ⟨d0, d1, d2⟩ := X1.out
    go_wp2_with fail
    go_at_call 26
    refine (HA.out _).mono ?_
    rintro e wa ⟨rfl, k1⟩
    have Ta := Lib.hid (T1.out.below k1)
    have Ba := Lib.hid (B1.out.trans (k1.mono B1.out.size))
    clear k1 T1 X1 B1 HA d0 d1 d2
    go_wp2
    go_ret
    exact ⟨rfl, Ta.out, grown_of_below Ba.out _⟩
end Go.Proofs.Ytcanagecdniiiaa
