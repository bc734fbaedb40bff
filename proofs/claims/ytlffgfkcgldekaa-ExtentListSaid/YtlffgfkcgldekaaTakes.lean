/-
  Take and Give (package extent), by contracts.
-/
import Derived.Test.YtlffgfkcgldekaaPutIn
namespace Go.Proofs.Ytlffgfkcgldekaa
open Go.RowKit

theorem PB.v {w : World} {b : Nat} {s : St} {F : Nat → Prop} (h : PB w b s F) : ∃ g cap, PBv w b s g cap ∧ F = fun k => k = b ∨ k = g := by
  obtain ⟨g, cap, h1, h2⟩ := h
  exact ⟨g, cap, h1, funext fun k => propext (h2 k)⟩
/-- A call that turns nothing, in a region that only reads. -/
theorem calls_drawn {P : Program} {f : FuncId} {args : Array Value} {w : World} {n : Nat} {v : Value} (h : Calls P f args (w.drewN n) fun e w' => e = .returned v ∧ w.drewN n = w') : Calls P f args (w.drewN n) fun e w' => e = .returned v ∧ ∃ m, w' = w.drewN m := by
  refine h.mono fun e w' ⟨he, hw⟩ => ⟨he, n, ?_⟩
  rw [hw]
/-- What a call within a call leaves, seen from the outer one's start. -/
theorem Goes.from {F : Nat → Prop} {w W w' : World} {Q : (Nat → Prop) → Prop} (hb : Below w.heap.size w W) (h : Goes F W w' Q) : Goes F w w' Q := Goes.trans (fun _ h => .inl h) (Keeps.of_below hb) h

/-- From w to W nothing old has turned, and r lies in the block that was made first. -/
def Bx (w : World) (r : Rg) (W : World) : Prop := Below (w.heap.size + 1) (w.alloc (.cells #[.int .i64 r.f, .int .i64 r.t] 30)) W
theorem Bx.start (w : World) (r : Rg) : Bx w r (w.alloc (.cells #[.int .i64 r.f, .int .i64 r.t] 30)) := Below.refl _ _
section
variable {w W : World} {r : Rg}
theorem Bx.size (h : Bx w r W) : w.heap.size + 1 ≤ W.heap.size := by
  have h1 := Below.size h
  rw [World.size_alloc] at h1; exact h1
theorem Bx.below (h : Bx w r W) : Below w.heap.size w W := ((Below.refl _ _).alloc (Nat.le_refl _) _).trans (Below.mono h (Nat.le_succ _))
theorem Bx.step {W' : World} (h : Bx w r W) (hb : Below W.heap.size W W') : Bx w r W' := Below.trans h (hb.mono h.size)
theorem Bx.drewN (h : Bx w r W) (n : Nat) : Bx w r (W.drewN n) := below_drewN h n
theorem Bx.cells (h : Bx w r W) : W.cell? ⟨w.heap.size, 0, none⟩ = some (.int .i64 r.f) ∧ W.cell? ⟨w.heap.size, 1, none⟩ = some (.int .i64 r.t) := by
  obtain ⟨a, b⟩ := boxed w r 30
  exact ⟨(Below.cell h (p := ⟨w.heap.size, 0, none⟩) (by simp)).trans a, (Below.cell h (p := ⟨w.heap.size, 1, none⟩) (by simp)).trans b⟩
end
section
variable {b g cap : Nat} {s : St} {w : World}
theorem chk (h : PBv w b s g cap) (r : Rg) : Hid (∀ W, Bx w r W → Calls Try.prog 29 #[.pointer (some ⟨b, 0, none⟩), .agg #[.int .i64 r.f, .int .i64 r.t]] W fun e w' => e = .returned (.int .i64 (mayE s r)) ∧ Bx w r w') :=
  fun W hW => (check_any b s g cap r W (h.below hW.below)).mono fun _ _ ⟨he, hb⟩ => ⟨he, hW.step hb⟩
theorem sch (h : PBv w b s g cap) (hG : Good s) (r : Rg) : Hid (∀ W, Bx w r W → Calls Try.prog 30 #[.pointer (some ⟨b, 0, none⟩), .int .i64 r.f] W fun e w' => e = .returned (.int .i64 (pos (runs s) r.f : Int)) ∧ Bx w r w') :=
  fun W hW => (search_any b s g cap r.f W (h.below hW.below) (runs_length hG)).mono fun _ _ ⟨he, hb⟩ => ⟨he, hW.step hb⟩
theorem hol (h : PBv w b s g cap) (k : Nat) (hk : k ≤ (runs s).length) (r : Rg) {v : Bool} (hv : holdsB (runs s) k r.f = v) : Hid (∀ W, Bx w r W → ∀ n, Calls Try.prog 31 #[.pointer (some ⟨b, 0, none⟩), .int .i64 (k : Int), .int .i64 r.f] (W.drewN n) fun e w' => e = .returned (.bool v) ∧ ∃ m, w' = W.drewN m) :=
  fun W hW n => by subst hv; exact calls_drawn (holds_any b s g cap k r.f (W.drewN n) (h.below (hW.drewN n).below) hk)
theorem cuts (h : PBv w b s g cap) (hG : Good s) {k : Nat} {x r : Rg} (hx : (runs s)[k]? = some x) (h1 : x.f ≤ r.f) (h2 : r.f < r.t) (h3 : r.t ≤ x.t) : Hid (∀ W, Bx w r W → Calls Try.prog 27 #[.pointer (some ⟨b, 0, none⟩), .int .i64 (k : Int), .agg #[.int .i64 r.f, .int .i64 r.t]] W fun e w' => e = .returned (.tuple #[]) ∧ Goes (fun k => k = b ∨ k = g) w w' (PB w' b (set s r false))) :=
  fun W hW => (cutOut_any b s g cap k x r W (h.below hW.below) hG hx h1 h2 h3).mono fun _ _ ⟨he, hk⟩ => ⟨he, hk.from hW.below⟩
theorem puts (h : PBv w b s g cap) (hG : Good s) {r : Rg} (hr : mayE s r = 0) (ha : All s r false) : Hid (∀ W, Bx w r W → Calls Try.prog 34 #[.pointer (some ⟨b, 0, none⟩), .int .i64 (pos (runs s) r.f : Int), .agg #[.int .i64 r.f, .int .i64 r.t]] W fun e w' => e = .returned (.tuple #[]) ∧ Goes (fun k => k = b ∨ k = g) w w' (PB w' b (set s r true))) :=
  fun W hW => (putIn_any b s g cap r W (h.below hW.below) hG hr ha).mono fun _ _ ⟨he, hk⟩ => ⟨he, hk.from hW.below⟩
theorem cls (h : PBv w b s g cap) (r : Rg) : Hid (∀ W, Bx w r W → W.cell? ⟨b, 1, none⟩ = some (.slice (some ⟨g, 0, none⟩) (runs s).length cap) ∧ W.cell? ⟨w.heap.size, 0, none⟩ = some (.int .i64 r.f) ∧ W.cell? ⟨w.heap.size, 1, none⟩ = some (.int .i64 r.t)) :=
  fun _ hW => ⟨(h.below hW.below).cells.2.1, hW.cells⟩
theorem ats (h : PBv w b s g cap) (r : Rg) {k : Nat} {x : Rg} (hx : (runs s)[k]? = some x) : Hid (∀ W, Bx w r W → W.cell? ⟨g, k * 2, none⟩ = some (.int .i64 x.f) ∧ W.cell? ⟨g, k * 2 + 1, none⟩ = some (.int .i64 x.t)) :=
  fun _ hW => ⟨((h.below hW.below).l.at_ k x hx).c0, ((h.below hW.below).l.at_ k x hx).c1⟩
theorem sames (h : PBv w b s g cap) (r : Rg) : Hid (∀ W, Bx w r W → Goes (fun k => k = b ∨ k = g) w W (PB W b s)) :=
  fun _ hW => Goes.same (h.below hW.below).pb (Keeps.of_below hW.below)
end

set_option maxRecDepth 100000 in
set_option maxHeartbeats 4000000 in
theorem take_any (b : Nat) (s : St) (F : Nat → Prop) (r : Rg) (w : World) (hP : PB w b s F) (hG : Good s) :
    Calls Try.prog 15 #[.pointer (some ⟨b, 0, none⟩), .agg #[.int .i64 r.f, .int .i64 r.t]] w fun e w' => e = .returned (.int .i64 (takeE s r)) ∧ Goes F w w' (PB w' b (takeS s r)) := by
  obtain ⟨g, cap, h, rfl⟩ := hP.v
  have HB := Lib.hid (Bx.start w r)
  have HK := chk h r
  have HP := sames h r
  by_cases hr : mayE s r = 0
  · have HS := sch h hG r
    have HC := cls h r
    have hpl := pos_le (runs s) r.f
    have hrl := (mayE_zero hr).1
    have hcap := h.l.le
    by_cases ha : All s r true
    · obtain ⟨x, hx, h1, h2⟩ := (take_asks hG hrl).1 ha
      have he : takeE s r = 0 := takeE_zero.2 ⟨hr, ha⟩
      have hs : takeS s r = set s r false := by unfold takeS; rw [if_pos he]
      rw [he, hs]
      have HH := hol h _ hpl r (v := true) (by unfold holdsB; rw [hx]; simpa using h1)
      have HX := cuts h hG hx h1 hrl h2
      have HA := ats h r hx
      have hlt : pos (runs s) r.f < (runs s).length := (List.getElem?_eq_some_iff.1 hx).1
      rw [hr] at HK
      clear h hG hP he hs hx ha hr HP
      generalize hk : pos (runs s) r.f = k at *
      generalize (runs s).length = n at *
      clear hk
      obtain ⟨rf, rt⟩ := r
      obtain ⟨xf, xt⟩ := x
      replace h2 : rt ≤ xt := h2
      have hlI : (k : Int) < (n : Int) := by omega
      have hk0 : (0 : Int) ≤ (k : Int) := by omega
      have hd : decide (xt < rt) = false := by simpa using h2
      go_enter Try.func15, Try.ntmps15
      go_wp2_with (first
        | (go_at_call 29; with_reducible refine (HK.out _ HB.out).mono ?_; rintro e w1 ⟨rfl, hb⟩; have HB1 := Lib.hid hb; (obtain ⟨z1, z2, z3⟩ := HC.out _ hb); clear hb)
        | (go_at_call 30; with_reducible refine (HS.out _ HB1.out).mono ?_; rintro e w2 ⟨rfl, hb⟩; have HB2 := Lib.hid hb; (obtain ⟨y1, y2, y3⟩ := HC.out _ hb); (obtain ⟨x1, x2⟩ := HA.out _ hb); clear hb)
        | fail)
      go_quiet ((go_at_call 31; exact HH.out _ HB2.out _))
      go_wp2_with (first
        | (go_at_call 27; with_reducible refine (HX.out _ (HB2.out.drewN _)).mono ?_; rintro e w3 ⟨rfl, hk⟩; have HK3 := Lib.hid hk; clear hk)
        | fail)
      go_ret
      exact ⟨rfl, HK3.out⟩
    · have hq : takeE s r = 4 := by unfold takeE; rw [if_neg (by omega), allB_false.2 ha]; rfl
      have hs : takeS s r = s := by unfold takeS; rw [hq, if_neg (by omega)]
      rw [hq, hs]
      have hno := fun x hx h1 h2 => ha ((take_asks hG hrl).2 ⟨x, hx, h1, h2⟩)
      cases hv : holdsB (runs s) (pos (runs s) r.f) r.f with
      | false =>
        have HH := hol h _ hpl r hv
        rw [hr] at HK
        clear h hG hP hq hs ha hr hno hv
        generalize pos (runs s) r.f = k at *
        generalize (runs s).length = n at *
        obtain ⟨rf, rt⟩ := r
        go_enter Try.func15, Try.ntmps15
        go_wp2_with (first
          | (go_at_call 29; with_reducible refine (HK.out _ HB.out).mono ?_; rintro e w1 ⟨rfl, hb⟩; have HB1 := Lib.hid hb; (obtain ⟨z1, z2, z3⟩ := HC.out _ hb); clear hb)
          | (go_at_call 30; with_reducible refine (HS.out _ HB1.out).mono ?_; rintro e w2 ⟨rfl, hb⟩; have HB2 := Lib.hid hb; (obtain ⟨y1, y2, y3⟩ := HC.out _ hb); clear hb)
          | fail)
        go_quiet ((go_at_call 31; exact HH.out _ HB2.out _))
        go_wp2
        go_ret
        exact ⟨rfl, HP.out _ (HB2.out.drewN _)⟩
      | true =>
        have HH := hol h _ hpl r hv
        obtain ⟨x, hx, h1⟩ : ∃ x, (runs s)[pos (runs s) r.f]? = some x ∧ x.f ≤ r.f := by
          unfold holdsB at hv
          split at hv
          · cases hv
          · next x hx => exact ⟨x, hx, by simpa using hv⟩
        have h2 : x.t < r.t := by
          rcases Int.lt_or_le x.t r.t with h2 | h2
          · exact h2
          · exact absurd h2 (hno x hx h1)
        have HA := ats h r hx
        have hlt : pos (runs s) r.f < (runs s).length := (List.getElem?_eq_some_iff.1 hx).1
        rw [hr] at HK
        clear h hG hP hq hs ha hr hno hv hx
        generalize hk : pos (runs s) r.f = k at *
        generalize (runs s).length = n at *
        clear hk
        obtain ⟨rf, rt⟩ := r
        obtain ⟨xf, xt⟩ := x
        replace h2 : xt < rt := h2
        have hlI : (k : Int) < (n : Int) := by omega
        have hk0 : (0 : Int) ≤ (k : Int) := by omega
        go_enter Try.func15, Try.ntmps15
        go_wp2_with (first
          | (go_at_call 29; with_reducible refine (HK.out _ HB.out).mono ?_; rintro e w1 ⟨rfl, hb⟩; have HB1 := Lib.hid hb; (obtain ⟨z1, z2, z3⟩ := HC.out _ hb); clear hb)
          | (go_at_call 30; with_reducible refine (HS.out _ HB1.out).mono ?_; rintro e w2 ⟨rfl, hb⟩; have HB2 := Lib.hid hb; (obtain ⟨y1, y2, y3⟩ := HC.out _ hb); (obtain ⟨x1, x2⟩ := HA.out _ hb); clear hb)
          | fail)
        go_quiet ((go_at_call 31; exact HH.out _ HB2.out _))
        go_wp2
        go_ret
        exact ⟨rfl, HP.out _ (HB2.out.drewN _)⟩
  · have he : takeE s r = mayE s r := by unfold takeE; rw [if_pos hr]
    have hs : takeS s r = s := by unfold takeS; rw [he, if_neg hr]
    rw [he, hs]
    clear h hG hP he hs
    generalize mayE s r = ev at *
    obtain ⟨rf, rt⟩ := r
    have hd : (ev == 0) = false := by simpa using hr
    go_enter Try.func15, Try.ntmps15
    go_wp2_with (go_at_call 29; with_reducible refine (HK.out _ HB.out).mono ?_; rintro e w1 ⟨rfl, hb⟩; have HB1 := Lib.hid hb; clear hb)
    go_ret
    exact ⟨rfl, HP.out _ HB1.out⟩

set_option maxRecDepth 100000 in
set_option maxHeartbeats 4000000 in
theorem give_any (b : Nat) (s : St) (F : Nat → Prop) (r : Rg) (w : World) (hP : PB w b s F) (hG : Good s) :
    Calls Try.prog 17 #[.pointer (some ⟨b, 0, none⟩), .agg #[.int .i64 r.f, .int .i64 r.t]] w fun e w' => e = .returned (.int .i64 (giveE s r)) ∧ Goes F w w' (PB w' b (giveS s r)) := by
  obtain ⟨g, cap, h, rfl⟩ := hP.v
  have HB := Lib.hid (Bx.start w r)
  have HK := chk h r
  have HP := sames h r
  by_cases hr : mayE s r = 0
  · have HS := sch h hG r
    have HC := cls h r
    have hpl := pos_le (runs s) r.f
    have hrl := (mayE_zero hr).1
    have hcap := h.l.le
    by_cases ha : All s r false
    · have he : giveE s r = 0 := giveE_zero.2 ⟨hr, ha⟩
      have hs : giveS s r = set s r true := by unfold giveS; rw [if_pos he]
      rw [he, hs]
      have HX := puts h hG hr ha
      rw [hr] at HK
      have hask := (give_asks hG hrl).1 ha
      cases hx : (runs s)[pos (runs s) r.f]? with
      | none =>
        have hlt : (runs s).length = pos (runs s) r.f := by have := List.getElem?_eq_none_iff.1 hx; omega
        clear h hG hP he hs hx ha hr HP hask
        generalize hk : pos (runs s) r.f = k at *
        generalize (runs s).length = n at *
        clear hk
        subst hlt
        obtain ⟨rf, rt⟩ := r
        have hd : decide ((n : Int) < (n : Int)) = false := by simp
        go_enter Try.func17, Try.ntmps17
        go_wp2_with (first
          | (go_at_call 29; with_reducible refine (HK.out _ HB.out).mono ?_; rintro e w1 ⟨rfl, hb⟩; have HB1 := Lib.hid hb; (obtain ⟨z1, z2, z3⟩ := HC.out _ hb); clear hb)
          | (go_at_call 30; with_reducible refine (HS.out _ HB1.out).mono ?_; rintro e w2 ⟨rfl, hb⟩; have HB2 := Lib.hid hb; (obtain ⟨y1, y2, y3⟩ := HC.out _ hb); clear hb)
          | fail)
        go_quiet (fail)
        go_wp2_with (first
          | (go_at_call 34; with_reducible refine (HX.out _ (HB2.out.drewN _)).mono ?_; rintro e w3 ⟨rfl, hk⟩; have HK3 := Lib.hid hk; clear hk)
          | fail)
        go_ret
        exact ⟨rfl, HK3.out⟩
      | some x =>
        have h1 := hask x hx
        have HA := ats h r hx
        have hlt : pos (runs s) r.f < (runs s).length := (List.getElem?_eq_some_iff.1 hx).1
        clear h hG hP he hs hx ha hr HP hask
        generalize hk : pos (runs s) r.f = k at *
        generalize (runs s).length = n at *
        clear hk
        obtain ⟨rf, rt⟩ := r
        obtain ⟨xf, xt⟩ := x
        replace h1 : rt ≤ xf := h1
        have hlI : (k : Int) < (n : Int) := by omega
        have hk0 : (0 : Int) ≤ (k : Int) := by omega
        have hd : decide (xf < rt) = false := by simpa using h1
        go_enter Try.func17, Try.ntmps17
        go_wp2_with (first
          | (go_at_call 29; with_reducible refine (HK.out _ HB.out).mono ?_; rintro e w1 ⟨rfl, hb⟩; have HB1 := Lib.hid hb; (obtain ⟨z1, z2, z3⟩ := HC.out _ hb); clear hb)
          | (go_at_call 30; with_reducible refine (HS.out _ HB1.out).mono ?_; rintro e w2 ⟨rfl, hb⟩; have HB2 := Lib.hid hb; (obtain ⟨y1, y2, y3⟩ := HC.out _ hb); (obtain ⟨x1, x2⟩ := HA.out _ hb); clear hb)
          | fail)
        go_quiet (fail)
        go_wp2_with (first
          | (go_at_call 34; with_reducible refine (HX.out _ (HB2.out.drewN _)).mono ?_; rintro e w3 ⟨rfl, hk⟩; have HK3 := Lib.hid hk; clear hk)
          | fail)
        go_ret
        exact ⟨rfl, HK3.out⟩
    · have hq : giveE s r = 3 := by unfold giveE; rw [if_neg (by omega), allB_false.2 ha]; rfl
      have hs : giveS s r = s := by unfold giveS; rw [hq, if_neg (by omega)]
      rw [hq, hs]
      obtain ⟨x, hx, h1⟩ : ∃ x, (runs s)[pos (runs s) r.f]? = some x ∧ x.f < r.t := by
        refine Classical.byContradiction fun hc => ha ((give_asks hG hrl).2 fun x hx => ?_)
        rcases Int.lt_or_le x.f r.t with h | h
        · exact absurd ⟨x, hx, h⟩ hc
        · exact h
      have HA := ats h r hx
      have hlt : pos (runs s) r.f < (runs s).length := (List.getElem?_eq_some_iff.1 hx).1
      rw [hr] at HK
      clear h hG hP hq hs hx ha hr
      generalize hk : pos (runs s) r.f = k at *
      generalize (runs s).length = n at *
      clear hk
      obtain ⟨rf, rt⟩ := r
      obtain ⟨xf, xt⟩ := x
      replace h1 : xf < rt := h1
      have hlI : (k : Int) < (n : Int) := by omega
      have hk0 : (0 : Int) ≤ (k : Int) := by omega
      go_enter Try.func17, Try.ntmps17
      go_wp2_with (first
        | (go_at_call 29; with_reducible refine (HK.out _ HB.out).mono ?_; rintro e w1 ⟨rfl, hb⟩; have HB1 := Lib.hid hb; (obtain ⟨z1, z2, z3⟩ := HC.out _ hb); clear hb)
        | (go_at_call 30; with_reducible refine (HS.out _ HB1.out).mono ?_; rintro e w2 ⟨rfl, hb⟩; have HB2 := Lib.hid hb; (obtain ⟨y1, y2, y3⟩ := HC.out _ hb); (obtain ⟨x1, x2⟩ := HA.out _ hb); clear hb)
        | fail)
      go_quiet (fail)
      go_wp2
      go_ret
      exact ⟨rfl, HP.out _ (HB2.out.drewN _)⟩
  · have he : giveE s r = mayE s r := by unfold giveE; rw [if_pos hr]
    have hs : giveS s r = s := by unfold giveS; rw [he, if_neg hr]
    rw [he, hs]
    clear h hG hP he hs
    generalize mayE s r = ev at *
    obtain ⟨rf, rt⟩ := r
    have hd : (ev == 0) = false := by simpa using hr
    go_enter Try.func17, Try.ntmps17
    go_wp2_with (go_at_call 29; with_reducible refine (HK.out _ HB.out).mono ?_; rintro e w1 ⟨rfl, hb⟩; have HB1 := Lib.hid hb; clear hb)
    go_ret
    exact ⟨rfl, HP.out _ HB1.out⟩
end Go.Proofs.Ytlffgfkcgldekaa
