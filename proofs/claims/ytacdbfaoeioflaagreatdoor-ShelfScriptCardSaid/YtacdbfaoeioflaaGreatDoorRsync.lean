/-
  The document's own counted, Sync and Read (weirkeepref07), by contracts.
-/
import Derived.Test.YtacdbfaoeioflaaGreatDoorRcrash
namespace Go.Proofs.YtacdbfaoeioflaaGreatDoor
open Go.RowKit

set_option maxRecDepth 100000 in
set_option maxHeartbeats 2000000 in
theorem rcounted_any (b : Nat) (s : St) (F : Nat → Prop) (w : World) (h : RB w b s F) (hg : Good s) (hc : s.n ≤ 1000000) :
    Calls Tryz.prog 56 #[.pointer (some ⟨b, 0, none⟩)] w fun e w' => e = .returned (.bool (lastC s)) ∧ Goes F w w' (RB w' b (count s)) := by
  have hbF := h.mem
  obtain ⟨vi, vw, h, hF⟩ := h.v
  obtain ⟨-, -, -, c3, c4, c5⟩ := h.cells
  have f3 := h.row.frozen 3
  have f5 := h.row.frozen 5
  have hlt := hg.lf
  have P1 := Lib.hid (h.setN (s.n + 1))
  have K1 := Lib.hid ((Keeps.refl F w).set (b := b) (o := 5) (.inl hbF) (.int .i64 ((s.n + 1 : Nat) : Int)))
  have hcast : ((s.n + 1 : Nat) : Int) = (s.n : Int) + 1 := by push_cast; rfl
  rw [hcast] at P1 K1
  have HF := Lib.hid hF
  clear hcast hF
  by_cases h0 : s.left = 0
  · have e1 : count s = { s with n := s.n + 1 } := by unfold count; rw [if_pos h0]
    have e2 : lastC s = false := by unfold lastC; rw [h0]; rfl
    rw [e1, e2]
    rw [h0] at c3
    clear h e1 e2 hg h0
    go_enter Tryz.func56, Tryz.ntmps56
    go_wp2
    go_ret
    exact ⟨rfl, Goes.ref P1.out hbF (fun k hk => .inl (HF.out k (.inr (.inl hk)))) (fun k hk => .inl (HF.out k (.inr (.inr hk)))) K1.out⟩
  · by_cases h1 : s.left = 1
    · have e1 : count s = crash { { s with n := s.n + 1 } with left := 0 } s.keep := by unfold count; rw [if_neg h0, if_pos h1]
      have e2 : lastC s = true := by unfold lastC; rw [h1]; rfl
      rw [e1, e2]
      have P2 := Lib.hid (P1.out.setLeft 0)
      have K2 := Lib.hid (K1.out.set (b := b) (o := 3) (.inl hbF) (.int .i64 ((0 : Nat) : Int)))
      have HC := Lib.hid (rcrash_any b { { s with n := s.n + 1 } with left := 0 } _ s.keep _ P2.out.rb ⟨hg.sec, hg.wt, hg.lo, hg.hi, by show 0 < _; omega, hg.kp⟩)
      have hc0 : ((0 : Nat) : Int) = 0 := rfl
      rw [hc0] at HC K2
      rw [h1] at c3
      clear h e1 e2 hg hc0 P1 K1 P2 h0 h1
      go_enter Tryz.func56, Tryz.ntmps56
      go_wp2_with (go_at_call 24; refine HC.out.mono ?_; rintro e w1 ⟨rfl, k1⟩; have K3 := Lib.hid k1; clear k1)
      go_ret
      exact ⟨rfl, Goes.trans (fun k hk => .inl (HF.out k hk)) K2.out K3.out⟩
    · have e1 : count s = { { s with n := s.n + 1 } with left := s.left - 1 } := by unfold count; rw [if_neg h0, if_neg h1]
      have e2 : lastC s = false := by unfold lastC; simp [h1]
      rw [e1, e2]
      have P2 := Lib.hid (P1.out.setLeft (s.left - 1))
      have K2 := Lib.hid (K1.out.set (b := b) (o := 3) (.inl hbF) (.int .i64 ((s.left - 1 : Nat) : Int)))
      have hcast : ((s.left - 1 : Nat) : Int) = (s.left : Int) - 1 := by omega
      rw [hcast] at P2 K2
      have h1I : (1 : Int) < (s.left : Int) := by omega
      clear h e1 e2 hg hcast P1 K1 h0 h1
      go_enter Tryz.func56, Tryz.ntmps56
      go_wp2
      go_ret
      exact ⟨rfl, Goes.ref P2.out hbF (fun k hk => .inl (HF.out k (.inr (.inl hk)))) (fun k hk => .inl (HF.out k (.inr (.inr hk)))) K2.out⟩

theorem lastC_true {s : St} (h : s.left = 1) : lastC s = true := by unfold lastC; rw [h]; rfl
theorem lastC_false {s : St} (h : ¬ s.left = 1) : lastC s = false := by unfold lastC; simp [h]

/-- The writes take place, in the document's own. -/
theorem whole_eq (s : St) : whole s = { (at' s (fun _ => 32) s.wait.length) with wait := [] } := rfl

set_option maxRecDepth 100000 in
set_option maxHeartbeats 4000000 in
theorem rsync_any (b : Nat) (s : St) (F : Nat → Prop) (w : World) (h : RB w b s F) (hg : Good s) (hc : s.n ≤ 1000000) :
    Calls Tryz.prog 20 #[.pointer (some ⟨b, 0, none⟩)] w fun e w' => e = .returned (.int .i64 (syncE s)) ∧ Goes F w w' (RB w' b (syncS s)) := by
  have HP0 := Lib.hid h
  obtain ⟨vi, vw, h, hF⟩ := h.v
  obtain ⟨-, -, c2, -⟩ := h.cells
  clear h hF
  cases hgo : s.gone
  · rw [hgo] at c2
    have hgt : ¬ (s.gone = true) := by simp [hgo]
    have HC := Lib.hid (rcounted_any b s F w HP0.out hg hc)
    have HG := Lib.hid hg.count
    by_cases h1 : s.left = 1
    · have e1 : syncE s = 70 := by unfold syncE; rw [if_pos (.inr h1)]
      have e2 : syncS s = count s := by unfold syncS; rw [if_neg hgt, if_pos h1]
      rw [e1, e2]
      rw [lastC_true h1] at HC
      clear h1 e1 e2 hgt hgo hg
      generalize count s = s2 at HC HG ⊢
      have hd : decide (false = true) = false := rfl
      go_enter Tryz.func20, Tryz.ntmps20
      go_wp2_with (go_at_call 56; refine HC.out.mono ?_; rintro e w1 ⟨rfl, k1⟩; have K1 := Lib.hid k1; clear k1)
      go_ret
      exact ⟨rfl, K1.out⟩
    · have e1 : syncE s = 0 := by unfold syncE; rw [if_neg (fun e => by rcases e with e | e; (exact hgt e); (exact h1 e))]
      have e2 : syncS s = whole (count s) := by unfold syncS; rw [if_neg hgt, if_neg h1]
      rw [e1, e2]
      rw [lastC_false h1] at HC
      clear h1 e1 e2 hgt hgo hg
      generalize count s = s2 at HC HG ⊢
      go_enter Tryz.func20, Tryz.ntmps20
      go_wp2_with (go_at_call 56; refine HC.out.mono ?_; rintro e w1 ⟨rfl, k1⟩; obtain ⟨F1, k1, k2, k3⟩ := k1; obtain ⟨vi1, vw1, k1, k4⟩ := k1.v; have P1 := Lib.hid k1; have E1 := Lib.hid (And.intro k2 (And.intro k3 k4)); (obtain ⟨⟨A, c, k5, k6, k7, -⟩, ⟨B, d, k8, k9, k10, -⟩⟩ := k1.shapes); subst k5 k8; clear k1 k2 k3 k4)
      unfold maxLen at k7 k10
      go_loopw [3] (fun jv wr => ∃ j : Nat, j ≤ s2.wait.length ∧ jv = .int .i64 j ∧ RBv wr b (at' s2 (fun _ => 32) j) (.slice A s2.is.length c) (.slice B s2.wait.length d) ∧ Keeps F1 w1 wr) (fun jv _ => s2.wait.length - (intOf jv).toNat)
      case atStart => exact ⟨0, Nat.zero_le _, rfl, P1.out, Keeps.refl _ _⟩
      case round =>
        obtain ⟨j, hj, rfl, hP, hK⟩ := hrel
        have P3 := Lib.hid hP
        have K3 := Lib.hid hK
        have d1 := hP.cells.2.1
        clear hP hK P1
        by_cases hlt : j < s2.wait.length
        · have hlI : (j : Int) < (s2.wait.length : Int) := by omega
          obtain ⟨x, hx⟩ : ∃ x, s2.wait[j]? = some x := ⟨_, List.getElem?_eq_getElem hlt⟩
          obtain ⟨hxi, hx32⟩ := HG.out.wt x (List.mem_of_getElem? hx)
          obtain ⟨⟨A1, c1, he1, -, -, hcI⟩, ⟨B1, c2', he2, -, -, hcW⟩⟩ := P3.out.shapes
          injection he1 with he1
          injection he2 with he2
          subst he1 he2
          obtain ⟨gw, rfl, hgw, w0, w1'⟩ := hcW j x hx
          have hdl : (done (fun _ => 32) s2.wait s2.is j).length = s2.is.length := done_length _ _ _ _
          have hxd : x.i < (done (fun _ => 32) s2.wait s2.is j).length := by rw [hdl]; exact hxi
          have hsec := done_sec (f := fun _ => 32) HG.out.sec HG.out.wt j x.i hxi
          have hold : (done (fun _ => 32) s2.wait s2.is j)[x.i]? = some ((done (fun _ => 32) s2.wait s2.is j).getD x.i []) := by rw [List.getD_eq_getElem?_getD, List.getElem?_eq_getElem hxd]; rfl
          obtain ⟨gi, rfl, hgi, i0⟩ := hcI x.i _ hold
          have HDS := Lib.hid (show (at' s2 (fun _ => 32) (j + 1)) = { at' s2 (fun _ => 32) j with is := (done (fun _ => 32) s2.wait s2.is j).set x.i x.b } from by unfold at'; rw [done_succ hx, mix_all hx32 hsec])
          have HDL := Lib.hid hdl
          generalize hod : (done (fun _ => 32) s2.wait s2.is j).getD x.i [] = old at i0
          have hj0 : (0 : Int) ≤ (j : Int) := by omega
          have hx0 : (0 : Int) ≤ (x.i : Int) := by omega
          have hx1 : (x.i : Int) < (s2.is.length : Int) := by omega
          have f0 := P3.out.cells.1
          have fz : wr.frozen? ⟨gi, x.i, none⟩ = false := by
            obtain ⟨cur, hcur⟩ := owns_type P3.out.is rfl
            unfold World.frozen?; simp only [hcur]; simp
          have HGI := Lib.hid (E1.out.2.2 gi (.inr (.inl rfl)))
          have FIN := Lib.hid (show RBv (wr.setCell ⟨gi, x.i, none⟩ (.string (str x.b))) b (at' s2 (fun _ => 32) (j + 1)) (.slice (some ⟨gi, 0, none⟩) s2.is.length c) (.slice (some ⟨gw, 0, none⟩) s2.wait.length d) from by
            rw [HDS.out]
            exact P3.out.setSec HDL.out.symm x.i _)
          clear hx hx32 hcI hcW hdl hxd hold hod hsec
          go_wp2
          go_region
          go_wp2
          go_roundw
          case rel => exact ⟨j + 1, by omega, by go_num, FIN.out.below ((Below.refl _ _).drew), (K3.out.set (b := gi) (o := x.i) (.inl HGI.out) _).drew⟩
          case measure => simp [intOf]; omega
        · obtain rfl : j = s2.wait.length := by omega
          have hlI : ¬ ((s2.wait.length : Int) < (s2.wait.length : Int)) := by omega
          have z1 := P3.out.row.frozen 1
          have PF := Lib.hid (RBv.setWaits (ws := []) (u := .slice none 0 0) P3.out.row P3.out.is (World.ownsRow_nil _ _ _ _))
          have hbF := E1.out.2.2 b (.inl rfl)
          have KF := Lib.hid (K3.out.set (b := b) (o := 1) (.inl hbF) (.slice none 0 0))
          clear hj
          go_wp2
          go_ret
          exact ⟨rfl, Goes.trans E1.out.1 E1.out.2.1 (Goes.ref PF.out hbF (fun k hk => .inl (E1.out.2.2 k (.inr (.inl hk)))) (fun k hk => by simp [Value.ownBlock] at hk) KF.out)⟩
  · rw [hgo] at c2
    have e1 : syncE s = 70 := by unfold syncE; rw [if_pos (.inl hgo)]
    have e2 : syncS s = s := by unfold syncS; rw [if_pos hgo]
    rw [e1, e2]
    clear e1 e2 hgo
    go_enter Tryz.func20, Tryz.ntmps20
    go_wp2
    go_ret
    exact ⟨rfl, Goes.same HP0.out (Keeps.refl _ _)⟩
end Go.Proofs.YtacdbfaoeioflaaGreatDoor
