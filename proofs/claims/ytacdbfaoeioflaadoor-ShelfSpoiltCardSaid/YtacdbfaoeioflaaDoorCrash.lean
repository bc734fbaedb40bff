/-
  Crash, count, Cut, Power and New (package plate), by contracts.
-/
import Derived.Test.YtacdbfaoeioflaaDoorSettle
namespace Go.Proofs.YtacdbfaoeioflaaDoor
open Go.RowKit

theorem PBv.pb {w : World} {b : Nat} {s : St} {L K : Nat} {v : Value} (h : PBv w b s L K v) : PB w b s (fun k => k = b ∨ v.ownBlock = some k) := ⟨L, K, v, h, fun _ => Iff.rfl⟩
/-- One of the plate's own cells is stored. -/
theorem PBv.set {w : World} {b : Nat} {s s' : St} {L K L' K' : Nat} {v : Value} (h : PBv w b s L K v) (i : Nat) (x : Value) (hw : s'.wait = s.wait) (he : ∀ o, (if o = i then x else pf s L K v o) = pf s' L' K' v o)
    (lf : s'.gone = false → L' = s'.left ∧ (s'.left ≠ 0 → K' = s'.keep)) (lt : L' < 9223372036854775808) (kt : K' < 18446744073709551616) : PBv (w.setCell ⟨b, i, none⟩ x) b s' L' K' v :=
  ⟨(h.row.set i x).congr fun o _ => he o, by rw [hw]; exact owns_kept h.own fun g hg => Below.heap_setCell _ _ _ _ (fun e => h.ne (by rw [hg]; exact congrArg some e)), lf, lt, kt⟩
theorem PBv.same {w : World} {b : Nat} {s s' : St} {L K : Nat} {v : Value} (h : PBv w b s L K v) (h1 : s'.is = s.is) (hw : s'.wait = s.wait) (hg : s'.gone = s.gone) (hn : s'.n = s.n)
    (lf : s'.gone = false → L = s'.left ∧ (s'.left ≠ 0 → K = s'.keep)) : PBv w b s' L K v :=
  ⟨h.row.congr fun o _ => by unfold pf; rw [h1, hg, hn], by rw [hw]; exact h.own, lf, h.lt, h.kt⟩
theorem PBv.setDead {w : World} {b : Nat} {s : St} {L K : Nat} {v : Value} (h : PBv w b s L K v) : PBv (w.setCell ⟨b, 4098, none⟩ (.bool true)) b { s with gone := true } L K v :=
  h.set 4098 _ rfl (fun o => by unfold pf; by_cases e : o = 4098 <;> simp [e]) (fun e => by cases e) h.lt h.kt
theorem PBv.setN {w : World} {b : Nat} {s : St} {L K : Nat} {v : Value} (h : PBv w b s L K v) (n : Nat) : PBv (w.setCell ⟨b, 4099, none⟩ (.int .i64 (n : Int))) b { s with n := n } L K v :=
  h.set 4099 _ rfl (fun o => by unfold pf; by_cases e : o = 4099 <;> simp [e]) h.lf h.lt h.kt
theorem PBv.setLeft {w : World} {b : Nat} {s : St} {L K : Nat} {v : Value} (h : PBv w b s L K v) (l : Nat) (hl : l < 9223372036854775808) (hk : s.gone = false → l ≠ 0 → K = s.keep) : PBv (w.setCell ⟨b, 4100, none⟩ (.int .i64 (l : Int))) b { s with left := l } l K v :=
  h.set 4100 _ rfl (fun o => by unfold pf; by_cases e : o = 4100 <;> simp [e]) (fun e => ⟨rfl, fun e' => hk e e'⟩) hl h.kt
theorem PB.v {w : World} {b : Nat} {s : St} {F : Nat → Prop} (h : PB w b s F) : ∃ L K v, PBv w b s L K v ∧ ∀ k, k = b ∨ v.ownBlock = some k → F k := by
  obtain ⟨L, K, v, h1, h2⟩ := h; exact ⟨L, K, v, h1, fun k hk => (h2 k).2 hk⟩
/-- A plate that goes on in the blocks that it had. -/
theorem Goes.plate {F : Nat → Prop} {w w' : World} {b : Nat} {s : St} {L K : Nat} {v : Value} (h : PBv w' b s L K v) (hb : F b) (hv : ∀ k, v.ownBlock = some k → F k ∨ w.heap.size ≤ k) (hk : Keeps F w w') : Goes F w w' (PB w' b s) :=
  ⟨_, h.pb, fun k hk => by rcases hk with rfl | hk; (exact .inl hb); (exact hv k hk), hk⟩
theorem Keeps.wider {F G : Nat → Prop} {w w' : World} (h : Keeps F w w') (hF : ∀ k, F k → G k) : Keeps G w w' := ⟨h.os, h.tape, h.output, h.size, fun k hk hn => h.block k hk (fun e => hn (hF k e))⟩

set_option maxRecDepth 100000 in
set_option maxHeartbeats 2000000 in
theorem crash_any (b : Nat) (s : St) (F : Nat → Prop) (keep : Nat) (w : World) (h : PB w b s F) (hg : Good s) (hn : s.wait.length ≤ 1000) (hk : keep < 18446744073709551616) :
    Calls Tryd.prog 73 #[.pointer (some ⟨b, 0, none⟩), .int .u64 keep] w fun e w' => e = .returned (.tuple #[]) ∧ Goes F w w' (PB w' b (crash s keep)) := by
  have hbF := h.mem
  have hbl := h.lt b hbF
  have hba : Below w.heap.size w (w.alloc (.cells #[.int .u64 keep] 99)) := (Below.refl _ _).alloc (Nat.le_refl _) _
  have HP0 := Lib.hid (h.below hba)
  obtain ⟨L, K, v, h, hF⟩ := h.v
  have h1 := h.below hba
  obtain ⟨-, -, c2, -⟩ := h1.cells
  have HB := Lib.hid hba
  have HP := Lib.hid h1
  have HG := Lib.hid hg
  cases hgo : s.gone
  · have e1 : crash s keep = { { { s with gone := true } with is := done (part keep) s.wait s.is s.wait.length, wait := [] } with left := 0 } := by unfold crash; rw [if_neg (by simp [hgo])]
    rw [e1]
    rw [hgo] at c2
    have f2 := h1.row.frozen 4098
    have hsz : (w.setCell ⟨b, 4098, none⟩ (.bool true)).heap.size = w.heap.size := by simp [World.setCell]
    have hbb : Below (w.setCell ⟨b, 4098, none⟩ (.bool true)).heap.size (w.setCell ⟨b, 4098, none⟩ (.bool true)) ((w.setCell ⟨b, 4098, none⟩ (.bool true)).alloc (.cells #[.int .u64 keep] 99)) := (Below.refl _ _).alloc (Nat.le_refl _) _
    have P2 := Lib.hid (h.setDead.below hbb)
    have HC := Lib.hid (show ((w.setCell ⟨b, 4098, none⟩ (.bool true)).alloc (.cells #[.int .u64 keep] 99)).cell? ⟨w.heap.size, 0, none⟩ = some (.int .u64 keep) from by
      rw [← hsz, cell_of_row _ _ _ _ _ _ (heap_alloc_new _ _)]; rfl)
    have HS := Lib.hid (settle_torn b { s with gone := true } L K v w.heap.size keep _ P2.out ⟨hg.sec, hg.wt, hg.lo, hg.hi, hg.lf, hg.kp⟩ hn HC (Lib.hid (by omega)) hk)
    have K0 := Lib.hid ((((Keeps.refl F w).set (b := b) (o := 4098) (.inl hbF) (.bool true))).then_below hbb)
    clear h h1 hba hg e1 hsz hbb
    go_enter Tryd.func73, Tryd.ntmps73
    go_wp2_with (go_at_call 70; refine HS.out.mono ?_; rintro e w1 ⟨rfl, k1, k2⟩; have K1 := Lib.hid k1; have K2 := Lib.hid k2; clear k1 k2)
    go_end0
    refine ⟨rfl, Goes.plate (K1.out.same rfl rfl rfl rfl (fun e => by cases e)) hbF (fun k hk => by simp [Value.ownBlock] at hk) ?_⟩
    exact K0.out.trans K2.out (fun k hk => .inl (by rw [hk]; exact hbF))
  · have e1 : crash s keep = s := by unfold crash; rw [if_pos hgo]
    rw [e1]
    rw [hgo] at c2
    clear h h1 hba hg e1
    go_enter Tryd.func73, Tryd.ntmps73
    go_wp2
    exact bodyPost_ret (results_none rfl _ _ _) rfl ⟨rfl, Goes.same HP0.out (Keeps.of_below HB.out)⟩

set_option maxRecDepth 100000 in
set_option maxHeartbeats 2000000 in
theorem count_any (b : Nat) (s : St) (F : Nat → Prop) (w : World) (h : PB w b s F) (hg : Good s) (hgo : s.gone = false) (hn : s.wait.length ≤ 1000) (hc : s.n ≤ 1000000) :
    Calls Tryd.prog 69 #[.pointer (some ⟨b, 0, none⟩)] w fun e w' => e = .returned (.int .i64 (countE s)) ∧ Goes F w w' (PB w' b (count s)) := by
  unfold countE
  have hbF := h.mem
  obtain ⟨L, K, v, h, hF⟩ := h.v
  obtain ⟨-, -, -, c3, c4, c5⟩ := h.cells
  have f3 := h.row.frozen 4099
  have f4 := h.row.frozen 4100
  obtain ⟨hL, hK⟩ := h.lf hgo
  have hlt := h.lt
  have P1 := Lib.hid (h.setN (s.n + 1))
  have K1 := Lib.hid ((Keeps.refl F w).set (b := b) (o := 4099) (.inl hbF) (.int .i64 ((s.n + 1 : Nat) : Int)))
  have hcast : ((s.n + 1 : Nat) : Int) = (s.n : Int) + 1 := by push_cast; rfl
  rw [hcast] at P1 K1
  subst hL
  clear hcast
  by_cases h0 : s.left = 0
  · have e1 : count s = { s with n := s.n + 1 } := by unfold count; rw [if_pos h0]
    rw [e1, if_neg (by omega)]
    rw [h0] at c4
    have HK := Lib.hid hF
    clear h hK e1 hF
    go_enter Tryd.func69, Tryd.ntmps69
    go_wp2
    go_ret
    exact ⟨rfl, Goes.plate P1.out hbF (fun k hk => .inl (HK.out k (.inr hk))) K1.out⟩
  · have hkk := hK h0
    by_cases h1 : s.left = 1
    · have e1 : count s = crash { { s with n := s.n + 1 } with left := 0 } s.keep := by unfold count; rw [if_neg h0, if_pos h1]
      rw [e1, if_pos h1]
      have P2 := Lib.hid (P1.out.setLeft 0 (by omega) (fun _ e => absurd rfl e))
      have K2 := Lib.hid (K1.out.set (b := b) (o := 4100) (.inl hbF) (.int .i64 ((0 : Nat) : Int)))
      have HC := Lib.hid (crash_any b { { s with n := s.n + 1 } with left := 0 } _ s.keep _ P2.out.pb ⟨hg.sec, hg.wt, hg.lo, hg.hi, by show 0 < _; omega, hg.kp⟩ hn hg.kp)
      have HF := Lib.hid hF
      have hc0 : ((0 : Nat) : Int) = 0 := rfl
      rw [hc0] at HC K2
      rw [hkk] at c5
      rw [h1] at c4
      clear h hK e1 hF hkk hg hc0 P1 K1 P2 h0 h1
      go_enter Tryd.func69, Tryd.ntmps69
      go_wp2_with (go_at_call 73; refine HC.out.mono ?_; rintro e w1 ⟨rfl, k1⟩; have K3 := Lib.hid k1; clear k1)
      go_ret
      exact ⟨rfl, Goes.trans (fun k hk => .inl (HF.out k hk)) (K2.out.wider (fun _ h => h)) K3.out⟩
    · have e1 : count s = { { s with n := s.n + 1 } with left := s.left - 1 } := by unfold count; rw [if_neg h0, if_neg h1]
      rw [e1, if_neg h1]
      have P2 := Lib.hid (P1.out.setLeft (s.left - 1) (by omega) (fun _ _ => hkk))
      have K2 := Lib.hid (K1.out.set (b := b) (o := 4100) (.inl hbF) (.int .i64 ((s.left - 1 : Nat) : Int)))
      have hcast : ((s.left - 1 : Nat) : Int) = (s.left : Int) - 1 := by omega
      rw [hcast] at P2 K2
      have HF := Lib.hid hF
      have h1I : (1 : Int) < (s.left : Int) := by omega
      clear h hK e1 hF hkk hg hcast P1 K1 h0 h1 hgo
      go_enter Tryd.func69, Tryd.ntmps69
      go_wp2
      go_ret
      exact ⟨rfl, Goes.plate P2.out hbF (fun k hk => .inl (HF.out k (.inr hk))) K2.out⟩

theorem PBv.setOrder {w : World} {b : Nat} {s : St} {L K : Nat} {v : Value} (h : PBv w b s L K v) (l k : Nat) (hl : l < 9223372036854775808) (hk : k < 18446744073709551616) (s' : St) (h1 : s'.is = s.is) (hw : s'.wait = s.wait) (hg : s'.gone = s.gone) (hn : s'.n = s.n)
    (lf : s'.gone = false → l = s'.left ∧ (s'.left ≠ 0 → k = s'.keep)) : PBv ((w.setCell ⟨b, 4100, none⟩ (.int .i64 (l : Int))).setCell ⟨b, 4101, none⟩ (.int .u64 (k : Int))) b s' l k v := by
  have e1 : PBv (w.setCell ⟨b, 4100, none⟩ (.int .i64 (l : Int))) b { s with gone := true } l K v ∨ True := .inr trivial
  refine ⟨((h.row.set 4100 (.int .i64 (l : Int))).set 4101 (.int .u64 (k : Int))).congr fun o _ => ?_, ?_, lf, hl, hk⟩
  · unfold pf
    rw [h1, hg, hn]
    by_cases e : o = 4101
    · simp [e]
    · by_cases e' : o = 4100
      · simp [e']
      · simp only [e, e', if_false]
        split
        · rfl
        · split
          · rfl
          · split
            · rfl
            · split
              · rfl
              · split
                · rfl
                · next h1 h2 h3 h4 h5 => exfalso; omega
  · rw [hw]
    exact owns_kept h.own fun g hg => by
      rw [Below.heap_setCell _ _ _ _ (fun e => h.ne (by rw [hg]; exact congrArg some e)), Below.heap_setCell _ _ _ _ (fun e => h.ne (by rw [hg]; exact congrArg some e))]

end Go.Proofs.YtacdbfaoeioflaaDoor
