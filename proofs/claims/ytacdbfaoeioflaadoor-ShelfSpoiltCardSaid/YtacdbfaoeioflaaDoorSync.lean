/-
  Sync (package plate), by a contract.
-/
import Derived.Test.YtacdbfaoeioflaaDoorCrash
namespace Go.Proofs.YtacdbfaoeioflaaDoor
open Go.RowKit

set_option maxRecDepth 100000 in
set_option maxHeartbeats 2000000 in
theorem sync_any (b : Nat) (s : St) (F : Nat → Prop) (w : World) (h : PB w b s F) (hg : Good s) (hn : s.wait.length ≤ 1000) (hc : s.n ≤ 1000000) :
    Calls Tryd.prog 62 #[.pointer (some ⟨b, 0, none⟩)] w fun e w' => e = .returned (.int .i64 (syncE s)) ∧ Goes F w w' (PB w' b (syncS s)) := by
  have HP0 := Lib.hid h
  obtain ⟨L, K, v, h, hF⟩ := h.v
  obtain ⟨-, -, c2, -⟩ := h.cells
  clear h hF
  cases hgo : s.gone
  · rw [hgo] at c2
    have hgt : ¬ (s.gone = true) := by simp [hgo]
    have HC := Lib.hid (count_any b s F w HP0.out hg hgo hn hc)
    have HG := Lib.hid hg.count
    have HN := Lib.hid (Nat.le_trans (count_wait s) hn)
    by_cases h1 : s.left = 1
    · have e1 : syncE s = 70 := by unfold syncE; rw [if_pos (.inr h1)]
      have e2 : syncS s = count s := by unfold syncS; rw [if_neg hgt, if_pos h1]
      rw [e1, e2]
      rw [show countE s = 70 from if_pos h1] at HC
      clear h1 e1 e2 hgt hgo hg
      generalize count s = s2 at HC HG HN ⊢
      go_enter Tryd.func62, Tryd.ntmps62
      go_wp2_with (go_at_call 69; refine HC.out.mono ?_; rintro e w1 ⟨rfl, k1⟩; have K1 := Lib.hid k1; clear k1)
      go_ret
      exact ⟨rfl, K1.out⟩
    · have e1 : syncE s = 0 := by unfold syncE; rw [if_neg (fun e => by rcases e with e | e; (exact hgt e); (exact h1 e))]
      have e2 : syncS s = whole (count s) := by unfold syncS; rw [if_neg hgt, if_neg h1]
      rw [e1, e2]
      rw [show countE s = 0 from if_neg h1] at HC
      clear h1 e1 e2 hgt hgo hg
      generalize count s = s2 at HC HG HN ⊢
      go_enter Tryd.func62, Tryd.ntmps62
      go_wp2_with (first
        | (go_at_call 69; refine HC.out.mono ?_; rintro e w1 ⟨rfl, k1⟩; obtain ⟨F1, k1, k2, k3⟩ := k1; obtain ⟨L1, K1, v1, k1, k4⟩ := k1.v; have P1 := Lib.hid k1; have E1 := Lib.hid (And.intro k2 (And.intro k3 k4)); clear k1 k2 k3 k4)
        | (go_at_call 70; refine (settle_all b s2 L1 K1 v1 _ P1.out HG.out HN.out).mono ?_; rintro e w2 ⟨rfl, k1, k2⟩; have P2 := Lib.hid k1; have E2 := Lib.hid k2; clear k1 k2))
      go_ret
      exact ⟨rfl, Goes.trans E1.out.1 E1.out.2.1 (Goes.plate P2.out (E1.out.2.2 b (.inl rfl)) (fun k hk => by simp [Value.ownBlock] at hk) (E2.out.wider (fun k hk => by rw [hk]; exact E1.out.2.2 b (.inl rfl))))⟩
  · rw [hgo] at c2
    have e1 : syncE s = 70 := by unfold syncE; rw [if_pos (.inl hgo)]
    have e2 : syncS s = s := by unfold syncS; rw [if_pos hgo]
    rw [e1, e2]
    clear e1 e2 hgo
    go_enter Tryd.func62, Tryd.ntmps62
    go_wp2
    go_ret
    exact ⟨rfl, Goes.same HP0.out (Keeps.refl _ _)⟩
end Go.Proofs.YtacdbfaoeioflaaDoor
