/-
  The document's own (weirkeepref08): Is, Free, may, all, set, by contracts.
-/
import Derived.Test.YtlffgfkcgldekaaNew
namespace Go.Proofs.Ytlffgfkcgldekaa
open Go.RowKit

theorem RB.v {w : World} {b : Nat} {s : St} {F : Nat → Prop} (h : RB w b s F) : ∃ g, RBv w b s g ∧ F = fun k => k = b ∨ k = g := by
  obtain ⟨g, h1, h2⟩ := h
  exact ⟨g, h1, funext fun k => propext (h2 k)⟩
/-- The bit at i. -/
theorem RBv.bit {w : World} {b : Nat} {s : St} {g : Nat} (h : RBv w b s g) {i : Int} (h0 : 0 ≤ i) (h1 : i < (s.n : Int)) : w.cell? ⟨g, i.toNat, none⟩ = some (.bool (s.p i)) ∧ w.frozen? ⟨g, i.toNat, none⟩ = false := by
  have := h.bits.cell (i := i.toNat) (by omega)
  rw [show ((i.toNat : Nat) : Int) = i by omega] at this
  exact ⟨this, h.bits.frozen _⟩

set_option maxRecDepth 100000 in
theorem ris_any (b : Nat) (s : St) (F : Nat → Prop) (i : Int) (w : World) (hR : RB w b s F) (hG : Good s) :
    Calls Try.prog 23 #[.pointer (some ⟨b, 0, none⟩), .int .i64 i] w fun e w' => e = .returned (.bool (s.p i)) ∧ w = w' := by
  obtain ⟨g, h, rfl⟩ := hR.v
  have c0 := h.cell
  by_cases h0 : 0 ≤ i
  · by_cases h1 : i < (s.n : Int)
    · obtain ⟨c1, -⟩ := h.bit h0 h1
      clear h hR hG
      generalize s.n = n at *
      generalize s.p i = v at *
      go_enter Try.func23, Try.ntmps23
      go_wp2
      go_ret
      exact ⟨rfl, rfl⟩
    · have hp : s.p i = false := by
        cases hp : s.p i with
        | false => rfl
        | true => exact absurd (hG.inn i hp).2 h1
      rw [hp]
      clear h hR hG hp
      generalize s.n = n at *
      go_enter Try.func23, Try.ntmps23
      go_wp2
      go_ret
      exact ⟨rfl, rfl⟩
  · have hp : s.p i = false := by
      cases hp : s.p i with
      | false => rfl
      | true => exact absurd (hG.inn i hp).1 h0
    rw [hp]
    clear h hR hG hp
    generalize s.n = n at *
    go_enter Try.func23, Try.ntmps23
    go_wp2
    go_ret
    exact ⟨rfl, rfl⟩

set_option maxRecDepth 100000 in
theorem rmay_any (b : Nat) (s : St) (g : Nat) (r : Rg) (w : World) (h : RBv w b s g) :
    Calls Try.prog 32 #[.pointer (some ⟨b, 0, none⟩), .agg #[.int .i64 r.f, .int .i64 r.t]] w fun e w' => e = .returned (.int .i64 (mayE s r)) ∧ Below w.heap.size w w' := by
  have c0 := h.cell
  have hlt := h.lt
  clear h
  unfold mayE
  generalize s.n = n at c0 ⊢
  obtain ⟨f, t⟩ := r
  by_cases h1 : t ≤ f
  · rw [if_pos h1]
    go_enter Try.func32, Try.ntmps32
    go_wp2
    go_ret
    exact ⟨rfl, (Below.refl _ _).alloc (Nat.le_refl _) _⟩
  · rw [if_neg h1]
    by_cases h2 : f < 0
    · rw [if_pos (.inl h2)]
      go_enter Try.func32, Try.ntmps32
      go_wp2
      go_quiet (fail)
      go_wp2
      go_ret
      exact ⟨rfl, below_drewN ((Below.refl _ _).alloc (Nat.le_refl _) _) _⟩
    · have hd : decide (f < 0) = false := by simpa using h2
      by_cases h3 : (n : Int) < t
      · rw [if_pos (.inr h3)]
        go_enter Try.func32, Try.ntmps32
        go_wp2
        go_quiet (fail)
        go_wp2
        go_ret
        exact ⟨rfl, below_drewN ((Below.refl _ _).alloc (Nat.le_refl _) _) _⟩
      · rw [if_neg (fun hc => by rcases hc with hc | hc; exact h2 hc; exact h3 hc)]
        go_enter Try.func32, Try.ntmps32
        go_wp2
        go_quiet (fail)
        go_wp2
        go_ret
        exact ⟨rfl, below_drewN ((Below.refl _ _).alloc (Nat.le_refl _) _) _⟩

set_option maxRecDepth 100000 in
set_option maxHeartbeats 1000000 in
theorem rfree_any (b : Nat) (s : St) (F : Nat → Prop) (w : World) (hR : RB w b s F) (hn : s.n ≤ 4096) :
    Calls Try.prog 12 #[.pointer (some ⟨b, 0, none⟩)] w fun e w' => e = .returned (.int .i64 (cnt s.p s.n)) ∧ w = w' := by
  obtain ⟨g, h, rfl⟩ := hR.v
  have c0 := h.cell
  have HB := Lib.hid (fun i h0 h1 => (h.bit (i := i) h0 h1).1)
  clear h hR
  obtain ⟨n, p⟩ := s
  replace c0 : w.cell? ⟨b, 0, none⟩ = some (.slice (some ⟨g, 0, none⟩) n n) := c0
  replace hn : n ≤ 4096 := hn
  go_enter Try.func12, Try.ntmps12
  go_wp2
  go_loop [3, 4] (fun nv iv => ∃ k : Nat, k ≤ n ∧ iv = .int .i64 k ∧ nv = .int .i64 (cnt p k)) (fun _ iv => n - (intOf iv).toNat)
  case atStart => exact ⟨0, Nat.zero_le _, rfl, rfl⟩
  case round =>
    obtain ⟨k, hk, rfl, rfl⟩ := hrel
    have hc := cnt_in p k
    by_cases hlt : k < n
    · have hlI : (k : Int) < (n : Int) := by omega
      have hk0 : (0 : Int) ≤ (k : Int) := by omega
      have c1 : w.cell? ⟨g, k, none⟩ = some (.bool (p k)) := HB.out (k : Int) hk0 hlI
      cases hp : p k with
      | false =>
        rw [hp] at c1
        have HE := Lib.hid (show cnt p (k + 1) = cnt p k from by rw [cnt, hp]; simp)
        clear hp
        go_wp2
        go_round
        case rel => exact ⟨k + 1, by omega, by go_num, congrArg (Value.int .i64) HE.out.symm⟩
        case measure => simp [intOf]; omega
      | true =>
        rw [hp] at c1
        have HE := Lib.hid (show cnt p (k + 1) = cnt p k + 1 from by rw [cnt, hp]; simp)
        clear hp
        go_wp2
        go_round
        case rel => exact ⟨k + 1, by omega, by go_num, congrArg (Value.int .i64) HE.out.symm⟩
        case measure => simp [intOf]; omega
    · obtain rfl : n = k := by omega
      have hlI : ¬ ((n : Int) < (n : Int)) := by omega
      go_wp2
      go_ret
      exact ⟨rfl, rfl⟩

set_option maxRecDepth 100000 in
set_option maxHeartbeats 1000000 in
theorem rall_any (b : Nat) (s : St) (g : Nat) (r : Rg) (v : Bool) (w : World) (h : RBv w b s g) (hr : mayE s r = 0) (hn : s.n ≤ 4096) :
    Calls Try.prog 33 #[.pointer (some ⟨b, 0, none⟩), .agg #[.int .i64 r.f, .int .i64 r.t], .bool v] w fun e w' => e = .returned (.bool (allB s r v)) ∧ Below w.heap.size w w' := by
  obtain ⟨q1, q2, q3⟩ := mayE_zero hr
  have hB : Below w.heap.size w (w.alloc (.cells #[.int .i64 r.f, .int .i64 r.t] 30)) := (Below.refl _ _).alloc (Nat.le_refl _) _
  have HBL := Lib.hid hB
  have c0 := (h.below hB).cell
  have HB := Lib.hid (fun i h0 h1 => ((h.below hB).bit (i := i) h0 h1).1)
  have HY := Lib.hid (fun (ha : ∀ i, r.f ≤ i → i < r.t → s.p i = v) => allB_true.2 (show All s r v from ha))
  have HN := Lib.hid (fun i (h1 : r.f ≤ i) (h2 : i < r.t) (h3 : ¬ s.p i = v) => allB_false.2 (show ¬ All s r v from fun ha => h3 (ha i h1 h2)))
  clear h hr hB
  generalize allB s r v = a at *
  obtain ⟨n, p⟩ := s
  replace hn : n ≤ 4096 := hn
  obtain ⟨f, t⟩ := r
  replace q1 : f < t := q1
  replace q2 : 0 ≤ f := q2
  replace q3 : t ≤ (n : Int) := q3
  go_enter Try.func33, Try.ntmps33
  go_wp2
  go_loop [7] (fun iv => ∃ k : Int, f ≤ k ∧ k ≤ t ∧ iv = .int .i64 k ∧ Hid (∀ i, f ≤ i → i < k → p i = v)) (fun iv => (t - intOf iv).toNat)
  case atStart => exact ⟨f, by omega, by omega, rfl, fun i h1 h2 => by omega⟩
  case round =>
    obtain ⟨k, hk1, hk2, rfl, HA⟩ := hrel
    by_cases hlt : k < t
    · have hkn : k < (n : Int) := by omega
      have hk0 : 0 ≤ k := by omega
      have c1 := HB.out k hk0 hkn
      replace c1 : (w.alloc (.cells #[.int .i64 f, .int .i64 t] 30)).cell? ⟨g, k.toNat, none⟩ = some (.bool (p k)) := c1
      by_cases hp : p k = v
      · rw [hp] at c1
        have HP := Lib.hid hp
        clear hp
        go_wp2
        go_round
        case rel => exact ⟨k + 1, by omega, by omega, rfl, fun i h1 h2 => by by_cases e : i = k; (subst e; exact HP.out); exact HA.out i h1 (by omega)⟩
        case measure => simp [intOf]; omega
      · have e : p k = !v := by revert hp; cases p k <;> cases v <;> simp
        have hE := HN.out k hk1 hlt hp
        subst hE
        rw [e] at c1
        clear hp e HA
        cases v with
        | true =>
          replace c1 : (w.alloc (.cells #[.int .i64 f, .int .i64 t] 30)).cell? ⟨g, k.toNat, none⟩ = some (.bool false) := c1
          go_wp2
          go_ret
          exact ⟨rfl, HBL.out⟩
        | false =>
          replace c1 : (w.alloc (.cells #[.int .i64 f, .int .i64 t] 30)).cell? ⟨g, k.toNat, none⟩ = some (.bool true) := c1
          go_wp2
          go_ret
          exact ⟨rfl, HBL.out⟩
    · obtain rfl : k = t := by omega
      have hE := HY.out HA.out
      subst hE
      go_wp2
      go_ret
      exact ⟨rfl, HBL.out⟩

theorem setP_step (p : Int → Bool) (f k : Int) (v : Bool) (hf : f ≤ k) (i : Int) : setP p f (k + 1) v i = if i = k then v else setP p f k v i := by
  unfold setP
  by_cases e : i = k
  · subst e; rw [if_pos (by omega), if_pos rfl]
  · rw [if_neg e]
    by_cases h : f ≤ i ∧ i < k
    · rw [if_pos h, if_pos (by omega)]
    · rw [if_neg h, if_neg (by omega)]
theorem RBv.step {w : World} {b : Nat} {s : St} {g : Nat} {f k : Int} {v : Bool} (h : RBv w b (set s ⟨f, k⟩ v) g) (hk : f ≤ k) (h0 : 0 ≤ k) : RBv (w.setCell ⟨g, k.toNat, none⟩ (.bool v)) b (set s ⟨f, k + 1⟩ v) g := by
  refine ⟨by rw [Below.heap_setCell _ _ _ _ h.ne]; exact h.row, h.ne, (h.bits.set k.toNat (.bool v)).congr fun i hi => ?_⟩
  show (if i = k.toNat then Value.bool v else .bool (setP s.p f k v i)) = .bool (setP s.p f (k + 1) v i)
  rw [setP_step s.p f k v hk]
  by_cases e : i = k.toNat
  · rw [if_pos e, if_pos (by omega)]
  · rw [if_neg e, if_neg (by omega)]
theorem set_none (s : St) (f : Int) (v : Bool) : set s ⟨f, f⟩ v = s := St.ext' rfl fun i => by show setP s.p f f v i = _; unfold setP; rw [if_neg (by omega)]

set_option maxRecDepth 100000 in
set_option maxHeartbeats 1000000 in
theorem rset_any (b : Nat) (s : St) (g : Nat) (r : Rg) (v : Bool) (w : World) (h : RBv w b s g) (hr : mayE s r = 0) (hn : s.n ≤ 4096) :
    Calls Try.prog 28 #[.pointer (some ⟨b, 0, none⟩), .agg #[.int .i64 r.f, .int .i64 r.t], .bool v] w fun e w' => e = .returned (.tuple #[]) ∧ Goes (fun k => k = b ∨ k = g) w w' (RB w' b (set s r v)) := by
  obtain ⟨q1, q2, q3⟩ := mayE_zero hr
  have hB : Below w.heap.size w (w.alloc (.cells #[.int .i64 r.f, .int .i64 r.t] 30)) := (Below.refl _ _).alloc (Nat.le_refl _) _
  have HBL := Lib.hid hB
  have h1 := h.below hB
  have hbl := h.lt
  have hgl := h.bits.lt
  have hb1 : Rb (w.alloc (.cells #[.int .i64 r.f, .int .i64 r.t] 30)) w.heap.size r := Rb.new w r
  have HB1 := Lib.hid hb1
  rw [← set_none s r.f v] at h1
  have H1 := Lib.hid h1
  clear h hr hB h1 hb1
  obtain ⟨f, t⟩ := r
  replace q1 : f < t := q1
  replace q2 : 0 ≤ f := q2
  replace q3 : t ≤ (s.n : Int) := q3
  go_enter Try.func28, Try.ntmps28
  go_wp2
  go_loopw [6] (fun iv wr => ∃ k : Int, f ≤ k ∧ k ≤ t ∧ iv = .int .i64 k ∧ RBv wr b (set s ⟨f, k⟩ v) g ∧ Rb wr w.heap.size ⟨f, t⟩ ∧ Keeps (fun k => k = b ∨ k = g) w wr) (fun iv _ => (t - intOf iv).toNat)
  case atStart => exact ⟨f, by omega, by omega, rfl, H1.out, HB1.out, Keeps.of_below HBL.out⟩
  case round =>
    obtain ⟨k, hk1, hk2, rfl, hR, hb, hK⟩ := hrel
    obtain ⟨z0, z1, -, -⟩ := hb.cells
    by_cases hlt : k < t
    · have hk0 : 0 ≤ k := by omega
      have hkn : k < (s.n : Int) := by omega
      have c0 := hR.cell
      replace c0 : wr.cell? ⟨b, 0, none⟩ = some (.slice (some ⟨g, 0, none⟩) s.n s.n) := c0
      obtain ⟨c1, c2⟩ := hR.bit (i := k) hk0 hkn
      have HR := Lib.hid (hR.step hk1 hk0)
      have HBX := Lib.hid (show Rb (wr.setCell ⟨g, k.toNat, none⟩ (.bool v)) w.heap.size ⟨f, t⟩ from by unfold Rb; rw [Below.heap_setCell _ _ _ _ (fun e => by have e' : w.heap.size = g := e; omega)]; exact hb)
      have HK := Lib.hid (hK.set (b := g) (o := k.toNat) (.inl (.inr rfl)) (.bool v))
      clear hR hb hK
      generalize s.n = n at *
      go_wp2
      go_roundw
      case rel => exact ⟨k + 1, by omega, by omega, rfl, HR.out, HBX.out, HK.out⟩
      case measure => simp [intOf]; omega
    · obtain rfl : k = t := by omega
      have HF := Lib.hid (show Goes (fun k => k = b ∨ k = g) w wr (RB wr b (set s ⟨f, k⟩ v)) from Goes.same hR.rb hK)
      clear hR hb hK
      go_wp2
      go_end0
      exact ⟨rfl, HF.out⟩
end Go.Proofs.Ytlffgfkcgldekaa
